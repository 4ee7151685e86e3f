package hear_test

import (
	"bytes"
	"math"
	"testing"

	"millstream/api"
	"millstream/cast"
	"millstream/drill"
	"millstream/head"
	"millstream/hear"
	"millstream/membuf"
	"millstream/steps"
)

var small = api.Ring{Base: 8, Size: 64}

const (
	intentAt = 72
	tailAt   = 80
	latestAt = 88
)

func read(at, n int) api.Access           { return api.Access{Kind: api.Read, At: at, N: n} }
func record(length, typ int32) api.Answer { return drill.Number(head.Record(length, typ)) }
func ear(cursor, next, lapped int64) (e api.Ear) {
	return api.Ear{Cursor: cursor, Next: next, Lapped: lapped}
}

func TestArguments(t *testing.T) {
	given := ear(1, 2, 3)
	for i, h := range []*hear.Hear{nil, hear.New(api.Ring{}, given)} {
		h.Take(api.Answer{})
		if _, ok := h.Next(); ok {
			t.Error("goes on")
		}
		if m, ok, e := h.Result(); ok || e != api.ErrArg || m.Type != 0 || len(m.Data) != 0 {
			t.Error(m, ok, e)
		}
		if i == 0 && h.State() != (api.Ear{}) || i == 1 && h.State() != given {
			t.Error(h.State())
		}
	}
}

func TestAccesses(t *testing.T) {
	n := drill.Number
	tail, intent, latest := steps.Load8(tailAt), steps.Load8(intentAt), steps.Load8(latestAt)
	for name, x := range map[string]struct {
		from api.Ear
		told []api.Answer
		want []api.Access
		to   api.Ear
		data string
		typ  int32
		e    api.Errno
	}{
		"nothing": {ear(8, 16, 1), []api.Answer{n(16)}, []api.Access{tail}, ear(8, 16, 1), "", 0, api.OK},
		"one": {
			ear(0, 16, 1), []api.Answer{n(32), n(79), record(11, 5), {B: []byte("abc")}, n(79)},
			[]api.Access{tail, intent, steps.Load8(24), read(32, 3), intent}, ear(16, 32, 1), "abc", 5, api.OK,
		},
		"one of no bytes": {
			ear(0, 16, 0), []api.Answer{n(32), n(32), record(8, 5), n(32)},
			[]api.Access{tail, intent, steps.Load8(24), intent}, ear(16, 24, 0), "", 5, api.OK,
		},
		"lapped": {
			ear(0, 16, 1), []api.Answer{n(96), n(80), n(88), record(9, 5), {B: []byte("a")}, n(104)},
			[]api.Access{tail, intent, latest, steps.Load8(32), read(40, 1), intent}, ear(88, 104, 2), "a", 5, api.OK,
		},
		"overwritten while it was read": {
			ear(0, 16, 1), []api.Answer{n(32), n(32), record(9, 5), {B: []byte("a")}, n(80)},
			[]api.Access{tail, intent, steps.Load8(24), read(32, 1), intent}, ear(0, 16, 2), "", 0, api.ErrLost,
		},
		"lapped, then overwritten": {
			ear(0, 16, 1), []api.Answer{n(96), n(80), n(88), record(8, 5), n(152)},
			[]api.Access{tail, intent, latest, steps.Load8(32), intent}, ear(0, 88, 3), "", 0, api.ErrLost,
		},
		"too short": {ear(0, 16, 0), []api.Answer{n(32), n(32), record(7, 5)}, []api.Access{tail, intent, steps.Load8(24)}, ear(0, 16, 1), "", 0, api.ErrLost},
		"below 0":   {ear(0, 16, 0), []api.Answer{n(32), n(32), record(-16, 5)}, []api.Access{tail, intent, steps.Load8(24)}, ear(0, 16, 1), "", 0, api.ErrLost},
		"too long":  {ear(0, 48, 0), []api.Answer{n(64), n(64), record(17, 5)}, []api.Access{tail, intent, steps.Load8(56)}, ear(0, 48, 1), "", 0, api.ErrLost},
		"padding": {
			ear(40, 48, 0), []api.Answer{n(99), n(99), record(16, -1), n(111), record(9, 5), {B: []byte("q")}, n(127)},
			[]api.Access{tail, intent, steps.Load8(56), intent, steps.Load8(8), read(16, 1), intent}, ear(64, 80, 0), "q", 5, api.OK,
		},
		"padding that isn't at the end": {ear(0, 40, 0), []api.Answer{n(64), n(64), record(16, -1)}, []api.Access{tail, intent, steps.Load8(48)}, ear(0, 40, 1), "", 0, api.ErrLost},
		"padding that is overwritten": {
			ear(0, 48, 0), []api.Answer{n(99), n(99), record(16, -1), n(112)},
			[]api.Access{tail, intent, steps.Load8(56), intent}, ear(0, 48, 1), "", 0, api.ErrLost,
		},
		"padding behind padding": {
			ear(0, 48, 0), []api.Answer{n(99), n(99), record(16, -1), n(99), record(64, -1)},
			[]api.Access{tail, intent, steps.Load8(56), intent, steps.Load8(8)}, ear(0, 64, 1), "", 0, api.ErrLost,
		},
		"odd behind padding": {
			ear(0, 48, 0), []api.Answer{n(99), n(99), record(16, -1), n(99), record(0, 5)},
			[]api.Access{tail, intent, steps.Load8(56), intent, steps.Load8(8)}, ear(0, 64, 1), "", 0, api.ErrLost,
		},
		"no multiple of 8": {
			ear(0, 61, 0), []api.Answer{n(99), n(99), {}},
			[]api.Access{tail, intent, steps.Load8(69)}, ear(0, 61, 1), "", 0, api.ErrLost,
		},
	} {
		h := hear.New(small, x.from)
		if m, ok, e := h.Result(); ok || len(m.Data) != 0 || e != api.ErrBusy {
			t.Error(name, ok, e)
		}
		if got := drill.Tell(h, x.told...); !drill.Alike(got, x.want) {
			t.Errorf("%s: %+v", name, got)
		}
		m, ok, e := h.Result()
		if e != x.e || ok != (x.typ != 0) || m.Type != x.typ || string(m.Data) != x.data {
			t.Errorf("%s: %v, %v, %d", name, m, ok, e)
		}
		if h.State() != x.to {
			t.Errorf("%s: %+v, want %+v", name, h.State(), x.to)
		}
	}
}

// TestAccessesGoRound: which position is more is told by their difference, as a number of eight bytes with its sign.
func TestAccessesGoRound(t *testing.T) {
	const low, high = math.MinInt64, math.MaxInt64
	n := func(v int64) api.Answer { return drill.Number(uint64(v)) }
	tail, intent, latest := steps.Load8(tailAt), steps.Load8(intentAt), steps.Load8(latestAt)
	lapped := []api.Access{tail, intent, latest}
	for name, x := range map[string]struct {
		next  int64
		told  []api.Answer
		want  []api.Access
		to    api.Ear
		heard bool
		e     api.Errno
	}{
		"a tail that is 2^63 ahead":     {low + 88, []api.Answer{n(88)}, []api.Access{tail}, ear(0, low+88, 0), false, api.OK},
		"a tail that is 2^63 behind":    {88, []api.Answer{n(low + 88)}, []api.Access{tail}, ear(0, 88, 0), false, api.OK},
		"a tail that is 1 behind":       {low, []api.Answer{n(high)}, []api.Access{tail}, ear(0, low, 0), false, api.OK},
		"a tail that is the same":       {low, []api.Answer{n(low)}, []api.Access{tail}, ear(0, low, 0), false, api.OK},
		"a tail that is 1 ahead":        {high, []api.Answer{n(low)}, []api.Access{tail, intent}, ear(0, high, 0), false, api.ErrBusy},
		"a tail that is 2^63-1 ahead":   {1, []api.Answer{n(low)}, []api.Access{tail, intent}, ear(0, 1, 0), false, api.ErrBusy},
		"an intent that is 63 ahead":    {high - 7, []api.Answer{n(low), n(low + 55)}, []api.Access{tail, intent, steps.Load8(64)}, ear(0, high-7, 0), false, api.ErrBusy},
		"an intent that is 64 ahead":    {high - 7, []api.Answer{n(low), n(low + 56)}, lapped, ear(0, high-7, 1), false, api.ErrBusy},
		"an intent that is 2^63-1":      {9, []api.Answer{n(24), n(low + 8)}, lapped, ear(0, 9, 1), false, api.ErrBusy},
		"an intent that is 2^63 behind": {8, []api.Answer{n(24), n(low + 8)}, []api.Access{tail, intent, steps.Load8(16)}, ear(0, 8, 0), false, api.ErrBusy},
		"an intent that is behind":      {low, []api.Answer{n(low + 8), n(high)}, []api.Access{tail, intent, steps.Load8(8)}, ear(0, low, 0), false, api.ErrBusy},
		"one over the end": {
			high - 7, []api.Answer{n(low), n(low), record(8, 5), n(low + 55)},
			[]api.Access{tail, intent, steps.Load8(64), intent}, ear(high-7, low, 0), true, api.OK,
		},
		"overwritten over the end": {
			high - 7, []api.Answer{n(low), n(low), record(8, 5), n(low + 56)},
			[]api.Access{tail, intent, steps.Load8(64), intent}, ear(0, high-7, 1), false, api.ErrLost,
		},
		"padding up to the end": {
			high - 15, []api.Answer{n(low + 8), n(low + 8), record(16, -1), n(low + 47), record(8, 5), n(low + 63)},
			[]api.Access{tail, intent, steps.Load8(56), intent, steps.Load8(8), intent}, ear(low, low+8, 0), true, api.OK,
		},
		"padding that is overwritten over the end": {
			high - 15, []api.Answer{n(low + 8), n(low + 8), record(16, -1), n(low + 48)},
			[]api.Access{tail, intent, steps.Load8(56), intent}, ear(0, high-15, 1), false, api.ErrLost,
		},
	} {
		h := hear.New(small, ear(0, x.next, 0))
		if got := drill.Tell(h, x.told...); !drill.Alike(got, x.want) {
			t.Errorf("%s: %+v", name, got)
		}
		if _, ok, e := h.Result(); ok != x.heard || e != x.e {
			t.Errorf("%s: %v, %d", name, ok, e)
		}
		if h.State() != x.to {
			t.Errorf("%s: %+v, want %+v", name, h.State(), x.to)
		}
	}
}

// TestStateSoFar: Lapped grows as soon as the intent tells it.
func TestStateSoFar(t *testing.T) {
	h := hear.New(small, ear(0, 16, 4))
	drill.Tell(h, drill.Number(96), drill.Number(80))
	if h.State() != ear(0, 16, 5) {
		t.Errorf("%+v", h.State())
	}
}

func TestWhateverItIsTold(t *testing.T) {
	r := drill.Rand(13)
	for range 1000 {
		h := hear.New(small, ear(int64(r.Answer().V), int64(r.Answer().V), 0))
		if n := drill.Fuzz(&r, h, 50); n < 0 || n == 50 {
			t.Fatal(n)
		}
	}
}

// turns is how many steps the sender does now: none where one that keeps near might fall behind too far.
func turns(r *drill.Rand, near bool, behind int64) int {
	if !near {
		return r.Below(6)
	}
	if behind+24 > 48 {
		return 0
	}
	return r.Below(2)
}

// start lets a broadcast begin at 0, or so little ahead of where positions go round that they do within a few messages: where it begins.
func start(r *drill.Rand, b *membuf.Buffer, g api.Ring) int64 {
	from := int64(0)
	if r.Below(2) == 0 {
		from = math.MaxInt64 - 7 - 8*int64(r.Below(20))
	}
	for i := range 3 {
		drill.Poke(b, g.Base+g.Size+8*i, uint64(from))
	}
	return from
}

// TestSteps: whatever the turns, what is heard was sent, whole, and stands behind what was heard ahead of it; who keeps near loses nothing.
func TestSteps(t *testing.T) {
	r := drill.Rand(14)
	lost, all := 0, 0
	for round := range 600 {
		near := round%2 == 0
		b := drill.Buffer(104)
		var l []api.Message
		for i := range 30 {
			l = append(l, api.Message{Type: int32(i + 1), Data: r.Bytes(r.Below(9))})
		}
		state := api.Ear{Next: start(&r, b, small)}
		c := cast.All(small, l)
		h, last, heard := hear.New(small, state), int32(0), 0
		for ended, left := 0, 5000; ended < 2; left-- {
			if left == 0 {
				t.Fatal("no end")
			}
			for range turns(&r, near, int64(drill.Peek(b, intentAt))-state.Next) {
				drill.Step(b, c)
			}
			if drill.Step(b, h) {
				continue
			}
			m, ok, e := h.Result()
			if e == api.ErrLost {
				lost++
			}
			if ok {
				heard++
				if m.Type <= last || !bytes.Equal(m.Data, l[m.Type-1].Data) {
					t.Fatalf("heard %v behind %d", m, last)
				}
				last = m.Type
			}
			if _, more := c.Next(); !more && !ok && e == api.OK {
				ended++
			}
			state = h.State()
			h = hear.New(small, state)
		}
		if near && (state.Lapped != 0 || heard != len(l)) {
			t.Fatalf("who kept near heard %d, lapped %d", heard, state.Lapped)
		}
		if heard == len(l) {
			all++
		}
	}
	if lost == 0 || all < 300 {
		t.Error("the turns are too tame:", lost, all)
	}
}
