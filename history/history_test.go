package history_test

import (
	"slices"
	"testing"

	"millstream/api"
	"millstream/drill"
	"millstream/history"
	"millstream/world"
)

func setup() api.Setup {
	return api.Setup{
		Log:     api.Log{Term: 512, Mtu: 32, Subs: 1},
		Writers: [][]api.Op{{{Data: []byte("a")}, {Data: make([]byte, 65)}, {Kind: 9}, {Data: []byte("b")}}, {{Kind: api.OpCommit}}, {{Data: make([]byte, 99)}}},
		Tries:   3, Polls: 9, Most: 1, Cleans: 9, Timeout: 50, Looks: 9,
	}
}

func play(t *testing.T, s api.Setup, actors ...int) []api.Event {
	t.Helper()
	f, e := world.New(s)
	if e != api.OK {
		t.Fatal(e)
	}
	for _, i := range actors {
		f.Pick(api.Pick{Actor: i})
	}
	return f.Trace()
}

func times(i, n int) []int { return slices.Repeat([]int{i}, n) }

func TestCalls(t *testing.T) {
	s := setup()
	long := api.Call{Writer: 2, From: -1, To: -1, Error: api.ErrLong}
	calls, e := history.Calls(s, nil)
	if e != api.OK || !slices.Equal(calls, []api.Call{long}) {
		t.Error(calls, e)
	}
	// Three Loads, an Add, four Stores, a Write and a Store: ten accesses.
	row := slices.Concat(times(0, 5), []int{3, 1, 4}, times(0, 5), times(1, 2), times(0, 1))
	tr := play(t, s, row...)
	calls, e = history.Calls(s, tr)
	want := []api.Call{
		{Writer: 0, Act: 0, From: 0, To: 12, End: 64},
		{Writer: 0, Act: 1, From: -1, To: -1, Error: api.ErrLong},
		{Writer: 0, Act: 2, From: -1, To: -1, Error: api.ErrArg},
		long,
	}
	if e != api.OK || !slices.Equal(calls, want) {
		t.Errorf("%+v, %d", calls, e)
	}
	if open, e := history.Open(s, tr); e != api.OK || !slices.Equal(open, []int{0, 1}) {
		t.Error(open, e)
	}
	if open, e := history.Open(s, tr[:13]); e != api.OK || !slices.Equal(open, []int{1}) {
		t.Error(open, e)
	}
	if open, e := history.Open(s, nil); e != api.OK || len(open) != 0 {
		t.Error(open, e)
	}
}

// TestTries: a call has the events of all its tries.
func TestTries(t *testing.T) {
	s := setup()
	s.Log.Term = 256
	s.Writers = [][]api.Op{{{Data: make([]byte, 32)}, {Data: make([]byte, 32)}, {}}}
	calls, e := history.Calls(s, play(t, s, times(0, 99)...))
	if e != api.OK || len(calls) != 3 || calls[2] != (api.Call{Act: 2, From: calls[1].To + 1, To: calls[1].To + 12, Error: api.ErrFull}) {
		t.Errorf("%+v, %d", calls, e)
	}
}

func TestOdd(t *testing.T) {
	s := setup()
	tr := play(t, s, slices.Concat(times(0, 9), times(3, 2), times(1, 4))...)
	tr = append(tr, api.Event{Pick: api.Pick{Actor: 2}}, api.Event{Pick: api.Pick{Kind: api.PickTick, N: 1}}, api.Event{Pick: api.Pick{Kind: api.PickKill}})
	if _, e := history.Calls(s, tr); e != api.OK {
		t.Fatal(e)
	}
	for i, change := range []func(l []api.Event) []api.Event{
		func(l []api.Event) []api.Event { l[0].Access.At++; return l },
		func(l []api.Event) []api.Event { l[8].Access.B = []byte("x"); return l },
		func(l []api.Event) []api.Event { l[3].Access.W = 1; return l },
		func(l []api.Event) []api.Event { l[3].Access.V++; return l },
		func(l []api.Event) []api.Event { l[3].Access.N = 4; return l },
		func(l []api.Event) []api.Event { return l[1:] },
		func(l []api.Event) []api.Event { l[5].Pick.Actor = 1; return l },
		func(l []api.Event) []api.Event { l[5].Pick.Actor = 2; return l },
	} {
		bad := change(slices.Clone(tr))
		calls, e := history.Calls(s, bad)
		open, f := history.Open(s, bad)
		if e != api.ErrOdd || f != e || len(calls)+len(open) != 0 {
			t.Error(i, e, f)
		}
	}
	// Events of others, and those that aren't steps, count for nothing.
	tr[9].Access.At = 5
	tr = append(tr, api.Event{Pick: api.Pick{Actor: -1}, Access: api.Access{Kind: 1}}, api.Event{Pick: api.Pick{Kind: api.PickTick}, Access: api.Access{Kind: 1}})
	if _, e := history.Calls(s, tr); e != api.OK {
		t.Error(e)
	}
	for _, x := range []struct {
		change func(s *api.Setup)
		e      api.Errno
	}{{func(s *api.Setup) { s.Timeout = -1 }, api.ErrArg}, {func(s *api.Setup) { s.Writers = make([][]api.Op, 9) }, api.ErrMany}} {
		bad := setup()
		x.change(&bad)
		_, e := history.Calls(bad, nil)
		_, f := history.Open(bad, nil)
		if e != x.e || f != x.e {
			t.Error(e, f)
		}
	}
}

func TestBefore(t *testing.T) {
	of := func(from, to int) api.Call { return api.Call{From: from, To: to} }
	for i, x := range []struct {
		a, b api.Call
		want bool
	}{
		{of(0, 3), of(4, 5), true}, {of(0, 4), of(4, 5), false}, {of(4, 5), of(0, 3), false}, {of(-1, -1), of(4, 5), false}, {of(-1, 3), of(4, 5), false},
		{of(0, 3), of(4, -1), false}, {of(0, -1), of(4, 5), false}, {of(0, 3), of(-1, -1), false}, {of(0, 0), of(1, 1), true},
	} {
		if history.Before(x.a, x.b) != x.want {
			t.Error(i)
		}
	}
}

func TestRising(t *testing.T) {
	of := func(from, to int, end int64, e api.Errno) api.Call {
		return api.Call{From: from, To: to, End: end, Error: e}
	}
	for i, x := range []struct {
		l    []api.Call
		want bool
	}{
		{nil, true},
		{[]api.Call{of(0, 1, 5, 0), of(2, 3, 6, 0)}, true},
		{[]api.Call{of(0, 1, 6, 0), of(2, 3, 6, 0)}, false},
		{[]api.Call{of(2, 3, 5, 0), of(9, 9, 9, 0), of(0, 1, 6, 0)}, false},
		{[]api.Call{of(0, 2, 6, 0), of(2, 3, 5, 0)}, true},
		{[]api.Call{of(0, 1, 6, 0), of(2, 3, 5, api.ErrFull)}, true},
		{[]api.Call{of(0, 1, 6, api.ErrFull), of(2, 3, 5, 0)}, true},
	} {
		if history.Rising(x.l) != x.want {
			t.Error(i)
		}
	}
}

// TestFabrics: a fabric's calls are its writers' acts, and are Rising.
func TestFabrics(t *testing.T) {
	r := drill.Rand(46)
	for range 100 {
		s := r.Setup()
		f, _ := world.New(s)
		f.Run(r.Picks(s, 1200, r.Below(2)))
		calls, e := history.Calls(s, f.Trace())
		if e != api.OK || !history.Rising(calls) {
			t.Fatal(e, calls)
		}
		for i := range s.Writers {
			for j, d := range f.Done(i) {
				if len(calls) == 0 {
					t.Fatal("too few calls")
				}
				c := calls[0]
				calls = calls[1:]
				if c.Writer != i || c.Act != j || c.End != d.End || c.Error != d.Error || c.From > c.To || (c.From < 0) != (d.Error == api.ErrLong) {
					t.Fatalf("%+v, %+v", c, d)
				}
			}
		}
		if len(calls) != 0 {
			t.Fatal("too many calls")
		}
	}
}
