package bound_test

import (
	"testing"

	"millstream/api"
	"millstream/bound"
	"millstream/drill"
	"millstream/world"
)

func setup() api.Setup {
	return api.Setup{Log: api.Log{Term: 256, Mtu: 32, Subs: 1}, Writers: [][]api.Op{{{Data: []byte("x")}}}, Tries: 9, Polls: 99, Most: 2, Cleans: 9, Timeout: 50, Looks: 99}
}

func TestRounds(t *testing.T) {
	for i, x := range []struct {
		change func(s *api.Setup)
		want   int
		e      api.Errno
	}{
		{func(s *api.Setup) {}, 3912, api.OK},
		{func(s *api.Setup) { s.Writers = nil }, 2 * 978, api.OK},
		{func(s *api.Setup) { s.Log.Subs = 3; s.Timeout = 0 }, 4 * (48 + 512 + 400), api.OK},
		{func(s *api.Setup) { s.Writers = [][]api.Op{make([]api.Op, 99), {}} }, api.MaxTimes, api.OK},
		{func(s *api.Setup) { s.Writers = [][]api.Op{make([]api.Op, 60), make([]api.Op, 2)}; s.Timeout = 0 }, 66 * 928, api.OK},
		{func(s *api.Setup) { s.Timeout = 1 << 40 }, api.MaxTimes, api.OK},
		{func(s *api.Setup) { s.Timeout = -1 }, 0, api.ErrArg},
		{func(s *api.Setup) { *s = api.Setup{} }, 0, api.ErrArg},
		{func(s *api.Setup) { s.Writers = make([][]api.Op, 9) }, 0, api.ErrMany},
	} {
		s := setup()
		x.change(&s)
		if n, e := bound.Rounds(s); n != x.want || e != x.e {
			t.Error(i, n, e)
		}
	}
}

func TestLeft(t *testing.T) {
	s := setup()
	s.Log.Subs = 2
	s.Writers = [][]api.Op{{{Data: []byte("a")}, {Kind: api.OpCommit}, {Kind: api.OpAbort}, {Data: make([]byte, 99)}}, make([]api.Op, 99)}
	f, _ := world.New(s)
	if n := bound.Left(f, s); n != 4+api.MaxOps {
		t.Error(n)
	}
	f.Pick(api.Pick{Kind: api.PickKill, Actor: 1})
	if n := bound.Left(f, s); n != 4 {
		t.Error(n)
	}
	for range 60 {
		f.Pick(api.Pick{Actor: 0})
	}
	if n := bound.Left(f, s); len(f.Done(0)) != 4 || n != 4 {
		t.Error(len(f.Done(0)), n)
	}
	for range 30 {
		f.Pick(api.Pick{Actor: 3})
	}
	if n := bound.Left(f, s); n != 2 {
		t.Error(n)
	}
	if n, ok := bound.Settle(nil, s); bound.Left(nil, s) != 0 || n != 0 || !ok {
		t.Error("of no fabric:", n, ok)
	}
}

func TestSettle(t *testing.T) {
	s := setup()
	f, _ := world.New(s)
	n, ok := bound.Settle(f, s)
	if !ok || n < 1 || bound.Left(f, s) != 0 || len(f.Messages(0)) != 1 {
		t.Error(n, ok)
	}
	ticks := 0
	for _, x := range f.Trace() {
		if x.Pick.Kind == api.PickTick {
			ticks++
		}
	}
	if ticks != n {
		t.Errorf("%d rounds, %d ticks", n, ticks)
	}
	if n, ok := bound.Settle(f, s); n != 0 || !ok {
		t.Error("once more:", n, ok)
	}
	s.Polls = 0
	f, _ = world.New(s)
	if n, ok := bound.Settle(f, s); n != 3912 || ok {
		t.Error("nobody reads:", n, ok)
	}
	s = setup()
	f, _ = world.New(s)
	f.Pick(api.Pick{Kind: api.PickKill, Actor: 0})
	if n, ok := bound.Settle(f, s); n != 0 || !ok {
		t.Error("who is dead has nothing left:", n, ok)
	}
}

// TestWithinTheBound: whatever was picked and killed, a fabric whose keeper, watcher and readers live settles.
func TestWithinTheBound(t *testing.T) {
	r := drill.Rand(35)
	played, most := 0, 0.0
	for range 150 {
		s := r.Setup()
		n, _ := bound.Rounds(s)
		if n > api.MaxTimes*2/3 {
			continue
		}
		f, _ := world.New(s)
		f.Run(r.Picks(s, r.Below(1500), r.Below(4)))
		took, ok := bound.Settle(f, s)
		if !ok || f.Error() != api.OK {
			t.Fatalf("%d of %d rounds, %d are left: %+v", took, n, bound.Left(f, s), s)
		}
		want := drill.Put(f, s)
		for i := range s.Log.Subs {
			if got := f.Messages(i); len(got) != len(want) || !drill.IsBeginning(got, want) {
				t.Fatalf("read %d of %d", len(got), len(want))
			}
		}
		played++
		most = max(most, float64(took)/float64(n))
	}
	if played < 50 || most >= 1 {
		t.Error(played, most)
	}
}
