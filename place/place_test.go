package place_test

import (
	"math"
	"testing"

	"millstream/api"
	"millstream/place"
)

func TestIsTerm(t *testing.T) {
	for size, want := range map[int64]int{256: 1, 512: 1, 8192: 1, 128: 0, 255: 0, 257: 0, 16384: 0, 0: 0, -256: 0, 768: 0, math.MinInt64: 0, math.MaxInt64: 0} {
		if place.IsTerm(size) != (want == 1) {
			t.Errorf("IsTerm(%d)", size)
		}
		most := int64(want) * size << 31
		if got := place.MaxPosition(size); got != most {
			t.Errorf("MaxPosition(%d) = %d", size, got)
		}
	}
}

func TestCount(t *testing.T) {
	for _, x := range []struct {
		term, initial int32
		want          uint32
	}{
		{7, 5, 2}, {5, 5, 0}, {math.MinInt32, math.MaxInt32, 1}, {4, 5, math.MaxUint32}, {-1, math.MinInt32, math.MaxInt32}, {math.MinInt32, 0, 1 << 31}, {1, -1, 2},
	} {
		if v := place.Count(x.term, x.initial); v != x.want {
			t.Errorf("Count(%d, %d) = %d", x.term, x.initial, v)
		}
	}
}

func TestPosition(t *testing.T) {
	for _, x := range []struct {
		term, initial int32
		offset, size  int64
		want          int64
		e             api.Errno
	}{
		{7, 5, 32, 256, 544, api.OK},
		{5, 5, 0, 256, 0, api.OK},
		{5, 5, 256, 256, 256, api.OK},
		{math.MinInt32, math.MaxInt32, 8, 512, 520, api.OK},
		{-1, math.MinInt32, 8192, 8192, 1 << 44, api.OK},
		{0, math.MinInt32, 0, 256, 0, api.ErrArg},
		{4, 5, 0, 256, 0, api.ErrArg},
		{5, 5, 257, 256, 0, api.ErrArg},
		{5, 5, -1, 256, 0, api.ErrArg},
		{5, 5, 0, 255, 0, api.ErrArg},
		{5, 5, 0, 0, 0, api.ErrArg},
	} {
		if v, e := place.Position(x.term, x.initial, x.offset, x.size); v != x.want || e != x.e {
			t.Errorf("%+v: %d, %d", x, v, e)
		}
	}
}

func TestTermAndOffset(t *testing.T) {
	for _, size := range []int64{256, 8192} {
		for _, initial := range []int32{0, 5, -3, math.MaxInt32, math.MinInt32} {
			for _, p := range []int64{0, 1, 255, 256, 544, 3*size - 1, place.MaxPosition(size) - 1, place.MaxPosition(size) / 2} {
				term, e := place.Term(p, initial, size)
				offset, f := place.Offset(p, size)
				got, g := place.Position(term, initial, offset, size)
				if e != api.OK || f != api.OK || g != api.OK || got != p || offset < 0 || offset >= size {
					t.Errorf("position %d of %d: term %d, offset %d make %d", p, size, term, offset, got)
				}
			}
		}
		for _, p := range []int64{-1, math.MinInt64, place.MaxPosition(size), math.MaxInt64} {
			if v, e := place.Term(p, 7, size); v != 0 || e != api.ErrArg {
				t.Errorf("Term(%d): %d, %d", p, v, e)
			}
			if v, e := place.Offset(p, size); v != 0 || e != api.ErrArg {
				t.Errorf("Offset(%d): %d, %d", p, v, e)
			}
		}
	}
	if v, e := place.Term(544, 5, 256); v != 7 || e != api.OK {
		t.Error(v, e)
	}
	if v, e := place.Term(544, 5, 300); v != 0 || e != api.ErrArg {
		t.Error(v, e)
	}
	if v, e := place.Offset(544, 128); v != 0 || e != api.ErrArg {
		t.Error(v, e)
	}
}

func TestPart(t *testing.T) {
	for count, want := range map[uint32]int{0: 0, 1: 1, 2: 2, 3: 0, 1 << 31: 2, math.MaxUint32: 0} {
		if v := place.Part(count); v != want {
			t.Errorf("Part(%d) = %d", count, v)
		}
	}
}

func TestPack(t *testing.T) {
	if v := place.Pack(-1, 1); v != 0xffffffff00000001 {
		t.Errorf("%x", v)
	}
	for _, term := range []int32{0, 1, -1, math.MinInt32, math.MaxInt32} {
		for _, offset := range []uint32{0, 1, 1 << 31, math.MaxUint32} {
			if a, b := place.Unpack(place.Pack(term, offset)); a != term || b != offset {
				t.Error(term, offset, a, b)
			}
		}
	}
}
