package sched_test

import (
	"bytes"
	"math"
	"testing"

	"millstream/api"
	"millstream/copies"
	"millstream/drill"
	"millstream/sched"
	"millstream/steps"
)

// clock is a machine that adds again and again, and is told the clock.
type clock struct {
	now  []int64
	told int
}

func (c *clock) Next() (api.Access, bool) { return steps.Add8(0, 1), true }
func (c *clock) Take(x api.Answer)        { c.told++ }
func (c *clock) Tick(now int64)           { c.now = append(c.now, now) }

// reuser is a machine that uses the same bytes again and again.
type reuser struct{ b, told []byte }

func (r *reuser) Next() (api.Access, bool) {
	return api.Access{Kind: api.Write, N: len(r.b), B: r.b}, true
}

func (r *reuser) Take(x api.Answer) {
	r.b[0]++
	r.told = x.B
}

func step(i int) api.Pick   { return api.Pick{Kind: api.PickStep, Actor: i} }
func kill(i int) api.Pick   { return api.Pick{Kind: api.PickKill, Actor: i} }
func tick(n int64) api.Pick { return api.Pick{Kind: api.PickTick, N: n} }

func empty(x api.Event) bool {
	return x.Pick == api.Pick{} && drill.Same(x.Access, api.Access{}) && x.Answer.V == 0 && !x.Answer.Done && len(x.Answer.B) == 0
}

func TestPick(t *testing.T) {
	c := &clock{}
	var none *copies.Copy
	w := sched.New(drill.Buffer(16), []sched.Machine{c, copies.In(15, []byte("ab")), nil, none, copies.Zero(8, 2)})
	for i, x := range []struct {
		p api.Pick
		e api.Errno
	}{
		{api.Pick{Kind: 3}, api.ErrArg}, {api.Pick{Kind: -1, Actor: 99}, api.ErrArg},
		{tick(-1), api.ErrArg}, {tick(1<<40 + 1), api.ErrArg}, {tick(math.MinInt64), api.ErrArg},
		{step(5), api.ErrRange}, {step(-1), api.ErrRange}, {kill(5), api.ErrRange}, {kill(math.MaxInt), api.ErrRange},
		{step(2), api.OK}, {step(3), api.OK}, {kill(2), api.OK}, {step(2), api.ErrDead}, {kill(2), api.ErrDead},
		{step(0), api.OK}, {tick(0), api.OK}, {tick(1 << 40), api.OK}, {step(4), api.OK}, {step(4), api.OK},
		{step(1), api.ErrRange}, {step(1), api.ErrDead},
	} {
		before := len(w.Trace())
		got, e := w.Pick(x.p)
		if e != x.e {
			t.Errorf("pick %d: %d, want %d", i, e, x.e)
		}
		if e == api.OK && (got.Pick != x.p || len(w.Trace()) != before+1) {
			t.Errorf("pick %d: %+v", i, got)
		}
		if e != api.OK && (!empty(got) || len(w.Trace()) != before) {
			t.Errorf("pick %d was refused: %+v", i, got)
		}
	}
	if w.Clock() != 1<<40 || !w.Dead(1) || !w.Dead(2) || w.Dead(0) || w.Dead(-1) || w.Dead(5) {
		t.Error("clock, or who is dead:", w.Clock())
	}
	if w.Ended(0) || w.Ended(1) || !w.Ended(2) || !w.Ended(3) || !w.Ended(4) || w.Ended(-1) || w.Ended(5) {
		t.Error("who is at its end")
	}
}

func TestEvents(t *testing.T) {
	b := drill.Buffer(16)
	w := sched.New(b, []sched.Machine{copies.In(0, []byte("abc")), copies.Out(0, 3)})
	l := w.Run([]api.Pick{step(0), step(7), step(1), step(1), tick(5), kill(0)})
	if len(l) != 5 || len(w.Trace()) != 5 || w.Clock() != 5 {
		t.Fatal(l, w.Clock())
	}
	if a := l[0].Access; a.Kind != api.Write || string(a.B) != "abc" || len(l[0].Answer.B) != 0 {
		t.Errorf("%+v", l[0])
	}
	if x := l[1]; x.Access.Kind != api.Read || string(x.Answer.B) != "abc" || x.Pick != step(1) {
		t.Errorf("%+v", x)
	}
	for i := 2; i < 5; i++ {
		if l[i].Access.Kind != 0 || len(l[i].Answer.B) != 0 {
			t.Errorf("%+v", l[i])
		}
	}
	l[0].Access.B[0], l[1].Answer.B[0] = 'x', 'x'
	w.Trace()[0].Access.B[0] = 'y'
	if x := w.Trace(); string(x[0].Access.B) != "abc" || string(x[1].Answer.B) != "abc" {
		t.Error("the trace is shared")
	}
	v := sched.New(drill.Buffer(8), []sched.Machine{&reuser{b: []byte("a")}})
	v.Run([]api.Pick{step(0), step(0), step(0)})
	for i, x := range v.Trace() {
		if x.Access.B[0] != byte('a'+i) {
			t.Error("the trace shares a machine's bytes:", x)
		}
	}
	if b.Count() != 2 {
		t.Error("accesses:", b.Count())
	}
}

func TestClock(t *testing.T) {
	a, b := &clock{}, &clock{}
	w := sched.New(drill.Buffer(8), []sched.Machine{a, nil, copies.Out(0, 1), b})
	w.Run([]api.Pick{tick(5), kill(0), tick(0), tick(2)})
	if len(a.now) != 1 || a.now[0] != 5 || len(b.now) != 3 || b.now[1] != 5 || b.now[2] != 7 {
		t.Error(a.now, b.now)
	}
}

func TestRobin(t *testing.T) {
	b := drill.Buffer(32)
	list := []sched.Machine{copies.Zero(0, 24), copies.In(32, []byte("x")), nil, copies.Zero(0, 8), &clock{}}
	w := sched.New(b, list)
	list[0] = nil
	w.Silence(4)
	w.Silence(-1)
	w.Silence(9)
	if n := w.Robin(0) + w.Robin(-3); n != 0 {
		t.Error("none was allowed:", n)
	}
	if n := w.Robin(2); n != 2 || !w.Dead(1) || b.Count() != 1 {
		t.Error(n, b.Count())
	}
	if n := w.Robin(100); n != 3 || !w.Ended(0) || !w.Ended(3) || len(w.Trace()) != 4 || !w.Dead(4) {
		t.Error(n, w.Trace())
	}
	var order []int
	for _, x := range w.Trace() {
		order = append(order, x.Pick.Actor)
	}
	if order[0] != 0 || order[1] != 0 || order[2] != 3 || order[3] != 0 {
		t.Error(order)
	}
	if n := sched.New(b, []sched.Machine{&clock{}}).Robin(1000); n != 1000 {
		t.Error(n)
	}
}

// TestOneAccess: each step does one access at most, and none once its actor was killed.
func TestOneAccess(t *testing.T) {
	r := drill.Rand(3)
	for range 50 {
		b := drill.Buffer(64)
		l := []sched.Machine{&clock{}, copies.In(0, r.Bytes(40)), copies.Out(0, 50), copies.In(60, r.Bytes(9))}
		w := sched.New(b, l)
		for range 60 {
			p := api.Pick{Kind: r.Below(20) / 18 * r.Below(3), Actor: r.Below(4), N: int64(r.Below(9))}
			dead, before, told := w.Dead(p.Actor), b.Count(), b.Bytes()
			x, e := w.Pick(p)
			d := b.Count() - before
			if d > 1 || d == 1 && (p.Kind != api.PickStep || dead || e != api.OK || x.Access.Kind == 0) {
				t.Fatalf("%+v did %d accesses", p, d)
			}
			if d == 0 && !bytes.Equal(told, b.Bytes()) {
				t.Fatalf("%+v changed bytes", p)
			}
		}
	}
}

func TestNilWorld(t *testing.T) {
	var w *sched.World
	for _, x := range []struct {
		p api.Pick
		e api.Errno
	}{{step(0), api.ErrRange}, {kill(0), api.ErrRange}, {tick(1), api.ErrArg}, {api.Pick{Kind: 9}, api.ErrArg}} {
		if _, e := w.Pick(x.p); e != x.e {
			t.Errorf("%+v: %d", x.p, e)
		}
	}
	w.Silence(0)
	if len(w.Run([]api.Pick{tick(1)})) != 0 || w.Robin(5) != 0 || w.Clock() != 0 || w.Dead(0) || w.Ended(0) || len(w.Trace()) != 0 {
		t.Error("a nil world does something")
	}
	v := sched.New(nil, []sched.Machine{&clock{}})
	if _, e := v.Pick(step(0)); e != api.ErrRange || !v.Dead(0) {
		t.Error("without a buffer:", e)
	}
}
