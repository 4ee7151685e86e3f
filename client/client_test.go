package client_test

import (
	"math"
	"slices"
	"testing"

	"millstream/api"
	"millstream/cast"
	"millstream/client"
	"millstream/command"
	"millstream/drill"
	"millstream/driver"
	"millstream/head"
	"millstream/hear"
	"millstream/ringput"
	"millstream/sched"
	"millstream/steps"
)

var (
	in  = api.Ring{Base: 0, Size: 512}
	out = api.Ring{Base: 544, Size: 512}
)

func question(kind int32, c int64) api.Asked {
	q := api.Asked{C: api.Command{Kind: kind, Client: c, Correlation: 77, Stream: 3, Session: 4}}
	if kind == api.Alive {
		q.C.Stream, q.C.Session, q.C.Correlation = 0, 0, 0
	}
	return q
}

func TestArguments(t *testing.T) {
	bad := api.Ring{Base: 4, Size: 64}
	q := question(api.AddPub, 1)
	for i, a := range []*client.Ask{nil, client.New(bad, out, q, 1, 1), client.New(in, bad, q, 1, 1)} {
		a.Take(api.Answer{})
		if _, ok := a.Next(); ok {
			t.Error(i, "goes on")
		}
		if c, e := a.Result(); c != (api.Command{}) || e != api.ErrArg {
			t.Error(i, c, e)
		}
		if i > 0 && a.Asked() != q || i == 0 && a.Asked() != (api.Asked{}) {
			t.Error(i, a.Asked())
		}
	}
}

// TestSteps: an Add, what a Put does, what Hears do.
func TestSteps(t *testing.T) {
	a, b := drill.Buffer(1088), drill.Buffer(1088)
	q := question(api.AddSub, 5)
	q.Ear = api.Ear{Lapped: 3}
	right := q.C
	right.Correlation = 41
	other := right
	other.Client = 6
	for _, x := range []interface {
		Do(api.Access) (api.Answer, api.Errno)
	}{a, b} {
		x.Do(steps.Store8(512+24, 41))
	}
	for _, c := range []api.Command{command.Answer(other, api.OK), right, command.Answer(right, api.ErrMany), command.Answer(right, api.OK)} {
		m, _ := command.Message(c)
		drill.Run(a, cast.New(out, m.Type, m.Data), 99)
		drill.Run(b, cast.New(out, m.Type, m.Data), 99)
	}
	drill.Run(a, cast.New(out, 1, nil), 99)
	ask := client.New(in, out, q, 0, 9)
	if ask.Asked() != q {
		t.Error(ask.Asked())
	}
	if _, e := ask.Result(); e != api.ErrBusy {
		t.Error(e)
	}
	got := drill.Run(a, ask, 999)
	want := []api.Access{steps.Add8(512+24, 1)}
	data, _ := command.Bytes(right)
	want = append(want, drill.Run(b, ringput.New(in, api.AddSub, data), 99)...)
	ear := q.Ear
	drill.Run(b, cast.New(out, 1, nil), 99)
	for range 3 {
		h := hear.New(out, ear)
		want = append(want, drill.Run(b, h, 99)...)
		ear = h.State()
	}
	if !drill.Alike(got, want) {
		t.Errorf("%d accesses, want %d", len(got), len(want))
	}
	if c, e := ask.Result(); e != api.OK || c != command.Answer(right, api.ErrMany) {
		t.Error(c, e)
	}
	if ask.Asked() != (api.Asked{C: right, Ear: ear}) {
		t.Error(ask.Asked())
	}
}

func TestEnds(t *testing.T) {
	n := drill.Number
	full := []api.Answer{n(0), n(512), n(0)}
	for name, x := range map[string]struct {
		in           api.Ring
		q            api.Asked
		tries, hears int
		told         []api.Answer
		e            api.Errno
		correlation  int64
	}{
		"a command that may not be": {in, question(api.AddPub, 0), 1, 1, []api.Answer{n(5)}, api.ErrForm, 5},
		"a correlation below 0":     {in, question(api.AddPub, 1), 1, 1, []api.Answer{n(1 << 63)}, api.ErrForm, math.MinInt64},
		"a kind that is none":       {in, question(9, 1), 1, 1, []api.Answer{n(5)}, api.ErrForm, 5},
		"too long for the ring":     {api.Ring{Size: 128}, question(api.AddPub, 1), 9, 9, []api.Answer{n(5)}, api.ErrLong, 5},
		"full":                      {in, question(api.AddPub, 1), 0, 9, append([]api.Answer{n(5)}, full...), api.ErrFull, 5},
		"full, again":               {in, question(api.AddPub, 1), 2, 9, slices.Concat([]api.Answer{n(5)}, full, full, full), api.ErrFull, 5},
		"full, tries below 0":       {in, question(api.AddPub, 1), -9, 9, append([]api.Answer{n(5)}, full...), api.ErrFull, 5},
		"heard never":               {in, question(api.AddPub, 1), 0, 0, []api.Answer{n(5), {}, {}, {Done: true}, {}, {}, {}, {}, {}, {}}, api.ErrLost, 5},
		"hears below 0":             {in, question(api.AddPub, 1), 0, -4, []api.Answer{n(5), {}, {}, {Done: true}, {}, {}, {}, {}, {}, {}}, api.ErrLost, 5},
		"heard nothing, twice":      {in, question(api.AddPub, 1), 0, 2, []api.Answer{n(5), {}, {}, {Done: true}, {}, {}, {}, {}, {}, {}, n(0), n(0)}, api.ErrLost, 5},
		"alive":                     {in, question(api.Alive, 1), 0, 9, []api.Answer{n(5), {}, {}, {Done: true}, {}, {}, {}, {}, {}, {}}, api.OK, 0},
	} {
		a := client.New(x.in, out, x.q, x.tries, x.hears)
		for i, told := range x.told {
			if _, e := a.Result(); e != api.ErrBusy {
				t.Errorf("%s: %d at %d", name, e, i)
			}
			a.Take(told)
		}
		if c, e := a.Result(); e != x.e || c != (api.Command{}) {
			t.Errorf("%s: %+v, %d", name, c, e)
		}
		q := x.q
		q.C.Correlation = x.correlation
		if a.Asked() != q {
			t.Errorf("%s: %+v", name, a.Asked())
		}
	}
}

// TestLost: what was lost counts as heard once, and the ear goes on from there.
func TestLost(t *testing.T) {
	n := drill.Number
	a := client.New(in, out, question(api.AddPub, 1), 0, 2)
	drill.Tell(a, n(5), n(0), n(0), api.Answer{Done: true}, n(0), n(0), n(0), n(0), n(0), n(0))
	drill.Tell(a, n(99), n(0), n(head.Record(7, 1)))
	if ear := a.Asked().Ear; ear != (api.Ear{Lapped: 1}) {
		t.Errorf("%+v", ear)
	}
	drill.Tell(a, n(0))
	if _, e := a.Result(); e != api.ErrLost {
		t.Error(e)
	}
}

func TestWhateverItIsTold(t *testing.T) {
	r := drill.Rand(44)
	for range 500 {
		if drill.Fuzz(&r, client.New(in, out, question(int32(r.Below(7)), 1), 2, 3), 300) < 0 {
			t.Fatal("an access changed")
		}
	}
}

// TestClients: clients that ask a driver, step by step as picked, each hear their own answer; no two have one Correlation.
func TestClients(t *testing.T) {
	r := drill.Rand(45)
	for range 60 {
		var asks []*client.Ask
		m := []sched.Machine{driver.New(in, out, 99, 1000)}
		for i := range 8 {
			q := question([]int32{api.AddPub, api.AddSub, api.Remove, api.Alive}[r.Below(4)], int64(1+r.Below(3)))
			if i == 0 {
				q.C.Client = 9
			}
			asks = append(asks, client.New(in, out, q, 1<<16, 1<<16))
			m = append(m, asks[i])
		}
		w := sched.New(drill.Buffer(1088), m)
		for range 3000 {
			w.Pick(api.Pick{Actor: r.Below(len(m))})
		}
		w.Robin(1 << 20)
		seen := map[int64]int{}
		for i, a := range asks {
			c, e := a.Result()
			q := a.Asked().C
			if e != api.OK {
				t.Fatal(i, e)
			}
			if q.Kind == api.Alive {
				if c != (api.Command{}) || q.Correlation != 0 {
					t.Fatal(c, q)
				}
				continue
			}
			seen[q.Correlation]++
			if seen[q.Correlation] > 1 || !command.IsAnswer(c, q) || c.Stream != q.Stream {
				t.Fatalf("%+v is answered %+v", q, c)
			}
		}
	}
}
