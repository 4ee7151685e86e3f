package inspect_test

import (
	"math"
	"slices"
	"testing"

	"millstream/api"
	"millstream/drill"
	"millstream/head"
	"millstream/inspect"
	"millstream/meta"
	"millstream/place"
	"millstream/world"
)

func log() api.Log { return api.Log{Base: 8, Term: 256, Mtu: 32, Subs: 2, Initial: 5} }

func TestNumbers(t *testing.T) {
	l := log()
	b := drill.Buffer(8 + meta.Size(l) + 16)
	drill.Run(b, meta.New(l), 20)
	drill.Poke(b, meta.TailAt(l, 1), 1<<63|7)
	drill.Poke(b, meta.ActiveAt(l), 9<<32|math.MaxUint32)
	drill.Poke(b, meta.LimitAt(l), math.MaxUint64)
	drill.Poke(b, meta.CleanAt(l), 1<<63)
	drill.Poke(b, meta.SubAt(l, 1), 77)
	v, e := inspect.Numbers(b.Bytes(), l)
	if e != api.OK || v.Active != math.MaxUint32 || v.Tails != [3]uint64{place.Pack(5, 0), 1<<63 | 7, place.Pack(4, 0)} || v.Limit != -1 || v.Cleaned != math.MinInt64 || !slices.Equal(v.Subs, []int64{0, 77}) {
		t.Errorf("%+v, %d", v, e)
	}
	for i, x := range []struct {
		b []byte
		l api.Log
	}{{nil, l}, {make([]byte, 8+meta.Size(l)-1), l}, {make([]byte, 9999), api.Log{}}, {nil, api.Log{Base: math.MaxInt}}} {
		v, e := inspect.Numbers(x.b, x.l)
		f, g := inspect.Frames(x.b, x.l)
		if e != api.ErrArg || g != api.ErrArg || len(f)+len(v.Subs) != 0 || v.Limit != 0 || v.Tails != [3]uint64{} {
			t.Error(i, v, e, f, g)
		}
	}
	if _, e := inspect.Numbers(make([]byte, 8+meta.Size(l)), l); e != api.OK {
		t.Error(e)
	}
}

func TestFrames(t *testing.T) {
	l := log()
	frame := func(length int32, typ uint16) api.Frame {
		return api.Frame{Length: length, Type: typ, Flags: 3, Offset: 4, Session: -5, Stream: 6, Term: -7, Reserved: 8}
	}
	for name, x := range map[string]struct {
		at   []int
		put  []api.Frame
		want []api.Seen
	}{
		"new": {nil, nil, nil},
		"of all states": {
			[]int{0, 64, 96, 256, 512}, []api.Frame{frame(33, 1), frame(-32, 1), frame(-64, 0), frame(64, 0), frame(256, 2)},
			[]api.Seen{{Part: 0, Offset: 0, Frame: frame(33, 1), State: api.Ready}, {Part: 0, Offset: 64, Frame: frame(-32, 1), State: api.Begun}, {Part: 0, Offset: 96, Frame: frame(-64, 0), State: api.Begun}, {Part: 1, Offset: 0, Frame: frame(64, 0), State: api.Padded}, {Part: 2, Offset: 0, Frame: frame(256, 2), State: api.Ready}},
		},
		"behind a hole":       {[]int{32}, []api.Frame{frame(32, 1)}, nil},
		"too short":           {[]int{0, 256}, []api.Frame{frame(31, 1), frame(-31, 1)}, nil},
		"past the end":        {[]int{0, 512}, []api.Frame{frame(257, 1), frame(-257, 1)}, nil},
		"the least":           {[]int{0}, []api.Frame{frame(math.MinInt32, 1)}, nil},
		"the greatest":        {[]int{0}, []api.Frame{frame(math.MaxInt32, 1)}, nil},
		"past the end, later": {[]int{0, 192}, []api.Frame{frame(192, 0), frame(65, 1)}, []api.Seen{{Part: 0, Offset: 0, Frame: frame(192, 0), State: api.Padded}}},
	} {
		b := drill.Buffer(8 + meta.Size(l))
		for i, f := range x.put {
			for j, v := range head.Words(f) {
				drill.Poke(b, 8+x.at[i]+8*j, v)
			}
		}
		if got, e := inspect.Frames(b.Bytes(), l); e != api.OK || !slices.Equal(got, x.want) {
			t.Errorf("%s: %+v, %d", name, got, e)
		}
	}
}

func TestCountAndFilled(t *testing.T) {
	of := func(part, state int, length int32) api.Seen {
		return api.Seen{Part: part, State: state, Frame: api.Frame{Length: length}}
	}
	l := []api.Seen{of(0, 1, 33), of(0, 2, -65), of(0, 2, 31), of(0, 3, -31), of(0, 9, 0), of(1, 2, 32), of(-4, 2, math.MinInt32), of(5, 0, math.MaxInt32)}
	for state, want := range map[int]int{1: 1, 2: 4, 3: 1, 0: 1, 9: 1, 7: 0} {
		if n := inspect.Count(l, state); n != want {
			t.Errorf("Count of %d: %d", state, n)
		}
	}
	for part, want := range map[int]int{0: 64 + 96, 1: 32, 2: 0, -4: 1 << 31, 5: 1 << 31} {
		if n := inspect.Filled(l, part); n != want {
			t.Errorf("Filled of %d: %d", part, n)
		}
	}
	if inspect.Count(nil, 1) != 0 || inspect.Filled(nil, 0) != 0 {
		t.Error("of nothing")
	}
}

// TestAllFilled: where all are at their end, and nobody has wiped anything, what is filled is what was claimed, up to terms' ends.
func TestAllFilled(t *testing.T) {
	r := drill.Rand(37)
	for range 100 {
		s := r.Setup()
		s.Cleans, s.Looks, s.Tries = 0, 0, 3
		f, _ := world.New(s)
		for _, p := range r.Picks(s, 500, 0) {
			f.Pick(p)
		}
		for i := range s.Writers {
			for !f.Ended(i) {
				f.Pick(api.Pick{Actor: i})
			}
		}
		v, _ := inspect.Numbers(f.Bytes(), s.Log)
		l, e := inspect.Frames(f.Bytes(), s.Log)
		if e != api.OK || inspect.Count(l, api.Begun) != 0 {
			t.Fatal(e, l)
		}
		for part, raw := range v.Tails {
			_, offset := place.Unpack(raw)
			if n := inspect.Filled(l, part); n != min(int(offset), s.Log.Term) {
				t.Fatalf("part %d: %d filled, %d claimed", part, n, offset)
			}
		}
	}
}
