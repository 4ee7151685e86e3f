package meta_test

import (
	"math"
	"slices"
	"testing"

	"millstream/api"
	"millstream/drill"
	"millstream/meta"
	"millstream/place"
	"millstream/steps"
)

func good() api.Log {
	return api.Log{Base: 8, Term: 1024, Mtu: 64, Subs: 2, Initial: 5, Session: 1, Stream: 2}
}

func TestCheck(t *testing.T) {
	for _, x := range []struct {
		l api.Log
		e api.Errno
	}{
		{good(), api.OK},
		{api.Log{Term: 256, Mtu: 32, Subs: 1}, api.OK},
		{api.Log{Term: 8192, Mtu: 1024, Subs: 8, Base: api.MaxBuffer - 24704}, api.OK},
		{api.Log{Term: 8192, Mtu: 1024, Subs: 8, Base: api.MaxBuffer - 24696}, api.ErrArg},
		{api.Log{Term: 8192, Mtu: 1056, Subs: 8}, api.ErrArg},
		{api.Log{Term: 256, Mtu: 64, Subs: 1}, api.ErrArg},
		{api.Log{Term: 1024, Mtu: 48, Subs: 1}, api.ErrArg},
		{api.Log{Term: 1024, Mtu: 0, Subs: 1}, api.ErrArg},
		{api.Log{Term: 1024, Mtu: -32, Subs: 1}, api.ErrArg},
		{api.Log{Term: 1024, Mtu: 32, Subs: 0}, api.ErrArg},
		{api.Log{Term: 1024, Mtu: 32, Subs: 9}, api.ErrArg},
		{api.Log{Term: 128, Mtu: 32, Subs: 1}, api.ErrArg},
		{api.Log{Term: 16384, Mtu: 32, Subs: 1}, api.ErrArg},
		{api.Log{Term: 1024, Mtu: 32, Subs: 1, Base: 4}, api.ErrArg},
		{api.Log{Term: 1024, Mtu: 32, Subs: 1, Base: -8}, api.ErrArg},
		{api.Log{}, api.ErrArg},
		{api.Log{Base: math.MaxInt, Term: math.MaxInt, Mtu: math.MaxInt, Subs: math.MaxInt}, api.ErrArg},
	} {
		if e := meta.Check(x.l); e != x.e {
			t.Errorf("%+v: %d", x.l, e)
		}
		bad := x.e != api.OK
		if c, e := meta.Cuts(x.l, 0); bad && (len(c) != 0 || e != api.ErrArg) {
			t.Error("cuts:", c, e)
		}
		if n, e := meta.Need(x.l, 1<<20); bad && (n != 0 || e != api.ErrArg) {
			t.Error("need:", n, e)
		}
		if bad && (meta.Size(x.l) != 0 || meta.TailAt(x.l, 7) != 0 || meta.ActiveAt(x.l) != 0 || meta.LimitAt(x.l) != 0 || meta.CleanAt(x.l) != 0 ||
			meta.SubAt(x.l, 99) != 0 || meta.PartAt(x.l, -1) != 0 || meta.MaxMessage(x.l) != 0 || meta.Window(x.l) != 0) {
			t.Errorf("%+v isn't a log, and stands somewhere", x.l)
		}
		if _, ok := meta.New(x.l).Next(); ok == bad {
			t.Errorf("%+v: %v", x.l, ok)
		}
	}
}

func TestPlaces(t *testing.T) {
	l := good()
	m := 8 + 3*1024
	got := []int{meta.MetaSize, meta.Size(l), meta.TailAt(l, 0), meta.TailAt(l, 2), meta.TailAt(l, 3), meta.TailAt(l, -1), meta.ActiveAt(l), meta.LimitAt(l), meta.CleanAt(l),
		meta.SubAt(l, 0), meta.SubAt(l, 1), meta.SubAt(l, 2), meta.SubAt(l, -1), meta.PartAt(l, 0), meta.PartAt(l, 2), meta.PartAt(l, 3), meta.PartAt(l, -1),
		meta.MaxMessage(l), int(meta.Window(l)), meta.SubAt(l, math.MaxInt), meta.TailAt(l, math.MinInt)}
	want := []int{128, 3200, m, m + 16, -1, -1, m + 24, m + 32, m + 40, m + 48, m + 56, -1, -1, 8, 2056, -1, -1, 128, 512, -1, -1}
	if !slices.Equal(got, want) {
		t.Error(got, want)
	}
}

func TestCutsAndNeed(t *testing.T) {
	l := good()
	for _, x := range []struct {
		n    int
		cuts []int
		need int64
		e    api.Errno
	}{
		{0, []int{0}, 32, api.OK}, {1, []int{1}, 64, api.OK}, {64, []int{64}, 96, api.OK}, {65, []int{64, 1}, 160, api.OK},
		{128, []int{64, 64}, 192, api.OK}, {129, nil, 0, api.ErrLong}, {-1, nil, 0, api.ErrArg}, {math.MinInt, nil, 0, api.ErrArg}, {math.MaxInt, nil, 0, api.ErrLong},
	} {
		if c, e := meta.Cuts(l, x.n); !slices.Equal(c, x.cuts) || e != x.e {
			t.Errorf("Cuts(%d): %v, %d", x.n, c, e)
		}
		if v, e := meta.Need(l, x.n); v != x.need || e != x.e {
			t.Errorf("Need(%d): %d, %d", x.n, v, e)
		}
	}
	l.Mtu = 32
	if v, e := meta.Need(l, 33); v != 128 || e != api.OK {
		t.Error(v, e)
	}
	for _, l := range []api.Log{{Term: 256, Mtu: 32, Subs: 1}, {Term: 1024, Mtu: 32, Subs: 1}, {Term: 8192, Mtu: 32, Subs: 1}, {Term: 8192, Mtu: 96, Subs: 1}} {
		for n := range meta.MaxMessage(l) + 1 {
			c, _ := meta.Cuts(l, n)
			sum := 0
			for i, k := range c {
				sum += k
				if k > l.Mtu || k < l.Mtu && i < len(c)-1 || k == 0 && n != 0 {
					t.Fatalf("%d bytes of %+v: %v", n, l, c)
				}
			}
			need, _ := meta.Need(l, n)
			if sum != n || need%32 != 0 || need < int64(n+32) || need > int64(l.Term/4+32) {
				t.Fatalf("%d bytes of %+v make %d and need %d", n, l, sum, need)
			}
		}
	}
}

func TestInit(t *testing.T) {
	l := good()
	l.Initial = math.MinInt32 + 1
	m := 8 + 3*1024
	want := []api.Access{
		steps.Store8(m, place.Pack(math.MinInt32+1, 0)), steps.Store8(m+8, place.Pack(math.MaxInt32, 0)), steps.Store8(m+16, place.Pack(math.MinInt32, 0)),
		steps.Store4(m+24, 0), steps.Store8(m+32, 512), steps.Store8(m+40, 0), steps.Store8(m+48, 0), steps.Store8(m+56, 0),
	}
	c := meta.New(l)
	if got := drill.Tell(c, make([]api.Answer, 20)...); !drill.Alike(got, want) {
		t.Errorf("%+v", got)
	}
	r := drill.Rand(17)
	if n := drill.Fuzz(&r, meta.New(l), 20); n != 8 {
		t.Error(n)
	}
	var none *meta.Init
	none.Take(api.Answer{})
	if _, ok := none.Next(); ok {
		t.Error("a nil machine goes on")
	}
}
