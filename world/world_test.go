package world_test

import (
	"bytes"
	"math"
	"testing"

	"millstream/api"
	"millstream/drill"
	"millstream/meta"
	"millstream/world"
)

func setup() api.Setup {
	return api.Setup{
		Log:     api.Log{Base: 8, Term: 512, Mtu: 32, Subs: 2, Initial: 5},
		Writers: [][]api.Op{{{Data: []byte("one")}, {Kind: api.OpCommit, Data: []byte("two")}}, {{Data: []byte("three")}}},
		Tries:   500, Polls: 60, Most: 3, Cleans: 40, Timeout: 10, Looks: 40,
	}
}

func make1(t *testing.T, s api.Setup) *world.Fabric {
	t.Helper()
	f, e := world.New(s)
	if e != api.OK || f == nil {
		t.Fatal(e)
	}
	return f
}

func step(i int) api.Pick   { return api.Pick{Kind: api.PickStep, Actor: i} }
func kill(i int) api.Pick   { return api.Pick{Kind: api.PickKill, Actor: i} }
func tick(n int64) api.Pick { return api.Pick{Kind: api.PickTick, N: n} }

func TestNew(t *testing.T) {
	many := make([][]api.Op, 9)
	for i, x := range []struct {
		change func(s *api.Setup)
		e      api.Errno
	}{
		{func(s *api.Setup) {}, api.OK},
		{func(s *api.Setup) { *s = api.Setup{} }, api.ErrArg},
		{func(s *api.Setup) { s.Timeout = -1 }, api.ErrArg},
		{func(s *api.Setup) { s.Timeout = 1<<40 + 1; s.Writers = many }, api.ErrArg},
		{func(s *api.Setup) { s.Timeout = 1 << 40; s.Writers = many[:8] }, api.OK},
		{func(s *api.Setup) { s.Writers = many }, api.ErrMany},
		{func(s *api.Setup) { s.Log.Subs = 9; s.Writers = many }, api.ErrArg},
		{func(s *api.Setup) { s.Polls, s.Most, s.Tries, s.Cleans, s.Looks = -1, math.MinInt, -1, -1, math.MinInt }, api.OK},
		{func(s *api.Setup) { s.Log.Subs = 8; s.Log.Base = api.MaxBuffer - 1664 }, api.OK},
	} {
		s := setup()
		x.change(&s)
		f, e := world.New(s)
		if e != x.e || (f == nil) != (e != api.OK) {
			t.Error(i, e)
		}
		if f == nil {
			continue
		}
		if f.Actors() != len(s.Writers)+s.Log.Subs+2 || len(f.Trace()) != 0 || len(f.Bytes()) != s.Log.Base+meta.Size(s.Log) {
			t.Error(i, f.Actors(), len(f.Trace()))
		}
		b := drill.Buffer(s.Log.Base + meta.Size(s.Log))
		drill.Run(b, meta.New(s.Log), 20)
		if !bytes.Equal(f.Bytes(), b.Bytes()) {
			t.Error(i, "its buffer has no new log")
		}
	}
}

func TestPlay(t *testing.T) {
	s := setup()
	f := make1(t, s)
	s.Writers[0][0].Data[0] = 'x'
	for range 4 {
		f.Pick(step(0))
	}
	if v, ok := f.Slot(0); !ok || v.Size != 64 || f.Ended(0) || f.Dead(0) {
		t.Error(v, ok)
	}
	l := f.Run([]api.Pick{step(9), step(1), tick(-1), tick(4), kill(3), step(3), kill(6), {Kind: 9}})
	if len(l) != 3 || l[1].Pick != tick(4) || !f.Dead(3) || f.Dead(2) {
		t.Error(l)
	}
	n := f.Rounds(50)
	steps := 0
	for _, x := range f.Trace() {
		if x.Pick.Kind == api.PickStep && x.Access.Kind != 0 {
			steps++
		}
	}
	if steps != n+5 {
		t.Errorf("%d steps of rounds, %d in all", n, steps)
	}
	d := f.Done(0)
	if len(d) != 2 || d[0].Error != api.OK || len(f.Done(1)) != 1 || len(f.Done(2))+len(f.Done(-1)) != 0 || !f.Ended(0) || !f.Ended(1) {
		t.Error(d, f.Done(1))
	}
	if m := f.Messages(0); len(m) != 3 || string(m[0].Data) != "one" || len(f.Messages(1)) != 0 || len(f.Messages(2))+len(f.Messages(-1)) != 0 {
		t.Error(m)
	}
	if _, ok := f.Slot(0); ok || f.Error() != api.OK || f.Mended() != 0 {
		t.Error(f.Error(), f.Mended())
	}
	if _, ok := f.Slot(9); ok || f.Dead(99) || f.Ended(99) || f.Ended(-1) {
		t.Error("one that isn't there does something")
	}
}

// TestRounds: each that lives and isn't at its end does a step, in order; then the clock goes on by 1.
func TestRounds(t *testing.T) {
	f := make1(t, setup())
	f.Pick(kill(2))
	if n := f.Rounds(2); n != 10 {
		t.Error(n)
	}
	want := []api.Pick{kill(2)}
	for range 2 {
		want = append(want, step(0), step(1), step(3), step(4), step(5), tick(1))
	}
	tr := f.Trace()
	for i := range tr {
		if i >= len(want) || tr[i].Pick != want[i] {
			t.Fatal(i, tr[i].Pick)
		}
	}
	if len(tr) != len(want) || f.Rounds(0)+f.Rounds(-1) != 0 || len(f.Trace()) != len(want) {
		t.Error(len(tr))
	}
	f.Rounds(math.MaxInt)
	ticks := 0
	for _, x := range f.Trace() {
		if x.Pick.Kind == api.PickTick {
			ticks++
		}
	}
	if ticks != 2+api.MaxTimes {
		t.Error(ticks)
	}
}

// TestLeftAlone: whose room is mended is killed, and the trace doesn't tell it; others aren't.
func TestLeftAlone(t *testing.T) {
	s := setup()
	s.Writers = [][]api.Op{{{Data: []byte("one")}}, {{Data: []byte("two")}}, {{Data: make([]byte, 99)}, {Kind: 2}}}
	s.Timeout = 0
	f := make1(t, s)
	for range 5 {
		f.Run([]api.Pick{step(0)})
	}
	for range 30 {
		f.Run([]api.Pick{step(2)})
	}
	watch := step(f.Actors() - 1)
	f.Run([]api.Pick{watch, watch, tick(1), watch, watch, watch})
	if f.Dead(0) {
		t.Error("killed too soon")
	}
	for range 5 {
		f.Pick(step(1))
	}
	if v, ok := f.Slot(1); !ok || v.Offset != 96 {
		t.Error("the slot behind what is mended:", v)
	}
	f.Pick(watch)
	if !f.Dead(0) || f.Dead(1) || f.Dead(2) {
		t.Error("who is killed:", f.Dead(0), f.Dead(1), f.Dead(2))
	}
	if _, e := f.Pick(step(0)); e != api.ErrDead {
		t.Error(e)
	}
	for range 5 {
		f.Pick(watch)
	}
	for _, x := range f.Trace() {
		if x.Pick.Kind == api.PickKill {
			t.Error("the trace tells it")
		}
	}
	if f.Mended() != 64 {
		t.Error(f.Mended())
	}
	f.Rounds(200)
	if m := f.Messages(1); len(m) != 1 || string(m[0].Data) != "two" || f.Error() != api.OK {
		t.Error(m, f.Error())
	}
}

func TestNil(t *testing.T) {
	var f *world.Fabric
	for _, x := range []struct {
		p api.Pick
		e api.Errno
	}{{step(0), api.ErrRange}, {kill(-1), api.ErrRange}, {tick(1), api.ErrArg}, {api.Pick{Kind: -1}, api.ErrArg}} {
		if _, e := f.Pick(x.p); e != x.e {
			t.Error(x.p, e)
		}
	}
	if _, ok := f.Slot(0); ok || len(f.Run([]api.Pick{tick(1)})) != 0 || f.Rounds(9)+f.Actors()+len(f.Done(0))+len(f.Messages(0))+len(f.Bytes())+len(f.Trace()) != 0 {
		t.Error("a nil fabric does something")
	}
	if f.Dead(0) || f.Ended(0) || f.Mended() != 0 || f.Error() != api.OK {
		t.Error("a nil fabric has something")
	}
}

// TestError: the first error of a reader is told.
func TestError(t *testing.T) {
	s := setup()
	s.Most = 0
	if f := make1(t, s); f.Error() != api.ErrArg {
		t.Error(f.Error())
	}
	s.Polls = 0
	if f := make1(t, s); f.Error() != api.OK {
		t.Error(f.Error())
	}
}

// TestWhateverIsPicked: each reader reads a beginning of what was appended or committed whole; nothing is odd.
func TestWhateverIsPicked(t *testing.T) {
	r := drill.Rand(33)
	read, mended := 0, int64(0)
	for range 400 {
		s := r.Setup()
		f := make1(t, s)
		f.Run(r.Picks(s, 1500, r.Below(3)))
		want := drill.Put(f, s)
		if f.Error() != api.OK {
			t.Fatal(f.Error())
		}
		for i := range s.Log.Subs {
			got := f.Messages(i)
			read += len(got)
			if !drill.IsBeginning(got, want) {
				t.Fatalf("read %v of %v", got, want)
			}
		}
		mended += f.Mended()
	}
	if read < 500 || mended == 0 {
		t.Error("the picks are too tame:", read, mended)
	}
}
