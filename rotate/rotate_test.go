package rotate_test

import (
	"math"
	"testing"

	"millstream/api"
	"millstream/drill"
	"millstream/meta"
	"millstream/place"
	"millstream/rotate"
	"millstream/steps"
)

func log(initial int32) api.Log { return api.Log{Term: 256, Mtu: 32, Subs: 1, Initial: initial} }

func TestArguments(t *testing.T) {
	for i, x := range []struct {
		r *rotate.Rotate
		e api.Errno
	}{
		{nil, api.ErrArg}, {rotate.New(api.Log{}, 0), api.ErrArg},
		{rotate.New(log(5), 4), api.ErrMax}, {rotate.New(log(0), math.MinInt32), api.ErrMax},
		{rotate.New(log(0), math.MaxInt32), api.ErrMax}, {rotate.New(log(0), math.MaxInt32-1), api.ErrBusy}, {rotate.New(log(5), 5), api.ErrBusy},
	} {
		if v, e := x.r.Result(); v || e != x.e {
			t.Error(i, v, e)
		}
		if _, ok := x.r.Next(); ok != (x.e == api.ErrBusy) {
			t.Error(i, ok)
		}
		x.r.Take(api.Answer{})
	}
}

const (
	m       = 3 * 256
	active  = m + 24
	cleaned = m + 40
)

func TestAccesses(t *testing.T) {
	n, done := drill.Number, api.Answer{Done: true}
	clean := steps.Load8(cleaned)
	for name, x := range map[string]struct {
		initial, term int32
		told          []api.Answer
		want          []api.Access
		moved         bool
		e             api.Errno
	}{
		"from the first term": {
			5, 5, []api.Answer{n(0), n(place.Pack(3, 0)), done, done},
			[]api.Access{clean, steps.Load8(m + 8), steps.Cas8(m+8, place.Pack(3, 0), place.Pack(6, 0)), steps.Cas4(active, 0, 1)}, true, api.OK,
		},
		"somebody was ahead": {
			5, 7, []api.Answer{n(1), n(place.Pack(5, 256)), n(0), n(place.Pack(8, 32)), n(3)},
			[]api.Access{clean, steps.Load8(m), steps.Cas8(m, place.Pack(5, 256), place.Pack(8, 0)), steps.Load8(m), steps.Cas4(active, 2, 3)}, false, api.OK,
		},
		"terms go round": {
			math.MaxInt32, math.MinInt32, []api.Answer{n(0), n(place.Pack(math.MaxInt32-1, 9)), done, {}},
			[]api.Access{clean, steps.Load8(m + 16), steps.Cas8(m+16, place.Pack(math.MaxInt32-1, 9), place.Pack(math.MinInt32+1, 0)), steps.Cas4(active, 1, 2)}, false, api.OK,
		},
		"not wiped":      {5, 7, []api.Answer{n(0)}, []api.Access{clean}, false, api.ErrFull},
		"cleaned, below": {5, 5, []api.Answer{n(1<<64 - 2)}, []api.Access{clean}, false, api.ErrFull},
		"cleaned, -1": {
			5, 5, []api.Answer{n(1<<64 - 1), n(0), done},
			[]api.Access{clean, steps.Load8(m + 8), steps.Cas4(active, 0, 1)}, true, api.OK,
		},
	} {
		r := rotate.New(log(x.initial), x.term)
		if got := drill.Tell(r, x.told...); !drill.Alike(got, x.want) {
			t.Errorf("%s: %+v", name, got)
		}
		if v, e := r.Result(); v != x.moved || e != x.e {
			t.Errorf("%s: %v, %d", name, v, e)
		}
	}
}

func TestWhateverItIsTold(t *testing.T) {
	r := drill.Rand(18)
	for range 500 {
		if drill.Fuzz(&r, rotate.New(log(int32(r.Next())), int32(r.Next())), 50) < 0 {
			t.Fatal("an access changed")
		}
	}
}

// TestAtOnce: of those that rotate from one term at once just one moves the active count on.
func TestAtOnce(t *testing.T) {
	r := drill.Rand(19)
	for range 300 {
		l := log(math.MaxInt32 - 2)
		b := drill.Buffer(meta.Size(l))
		drill.Run(b, meta.New(l), 20)
		for count := range uint32(6) {
			drill.Poke(b, meta.CleanAt(l), uint64(count))
			term := l.Initial + int32(count)
			var all []*rotate.Rotate
			for range 4 {
				all = append(all, rotate.New(l, term))
			}
			for range 60 {
				drill.Step(b, all[r.Below(4)])
			}
			moved := 0
			for _, x := range all {
				drill.Run(b, x, 20)
				if v, e := x.Result(); e != api.OK {
					t.Fatal(e)
				} else if v {
					moved++
				}
			}
			if got := uint32(drill.Peek(b, meta.ActiveAt(l))); moved != 1 || got != count+1 {
				t.Fatalf("%d moved it to %d", moved, got)
			}
			if raw := drill.Peek(b, meta.TailAt(l, place.Part(count+1))); raw != place.Pack(term+1, 0) {
				t.Fatalf("tail of the next part: %x", raw)
			}
		}
	}
}
