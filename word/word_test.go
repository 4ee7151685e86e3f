package word_test

import (
	"bytes"
	"math"
	"slices"
	"testing"

	"millstream/api"
	"millstream/word"
)

func TestPowers(t *testing.T) {
	powers := map[int64]int{}
	for k := range 63 {
		powers[1<<k] = k
	}
	for k := range 63 {
		for _, n := range []int64{1<<k - 1, 1 << k, 1<<k + 1, -(1 << k), 3 << min(k, 60)} {
			want, is := powers[n]
			if word.IsPower(n) != is {
				t.Errorf("IsPower(%d) = %v", n, !is)
			}
			if got, ok := word.Log2(n); ok != is || got != want {
				t.Errorf("Log2(%d) = %d, %v", n, got, ok)
			}
		}
	}
	for _, n := range []int64{0, math.MinInt64, math.MaxInt64} {
		if got, ok := word.Log2(n); ok || got != 0 || word.IsPower(n) {
			t.Errorf("%d is told to be a power", n)
		}
	}
}

func TestAlign(t *testing.T) {
	for _, x := range []struct {
		n, to, want int64
		e           api.Errno
	}{
		{33, 32, 64, api.OK},
		{0, 8, 0, api.OK},
		{1, 8, 8, api.OK},
		{8, 8, 8, api.OK},
		{5, 1, 5, api.OK},
		{1 << 62, 1 << 62, 1 << 62, api.OK},
		{1<<62 - 1, 1 << 62, 1 << 62, api.OK},
		{1, 1 << 62, 1 << 62, api.OK},
		{1<<62 + 1, 8, 0, api.ErrArg},
		{math.MaxInt64, 1, 0, api.ErrArg},
		{-1, 8, 0, api.ErrArg},
		{math.MinInt64, 8, 0, api.ErrArg},
		{1, 0, 0, api.ErrArg},
		{1, 3, 0, api.ErrArg},
		{1, -8, 0, api.ErrArg},
	} {
		if v, e := word.Align(x.n, x.to); v != x.want || e != x.e {
			t.Errorf("Align(%d, %d) = %d, %d; want %d, %d", x.n, x.to, v, e, x.want, x.e)
		}
	}
}

func TestMask(t *testing.T) {
	for _, x := range []struct{ n, to, want int64 }{
		{13, 8, 5}, {16, 8, 0}, {-1, 8, 7}, {-8, 8, 0}, {-9, 8, 7}, {7, 1, 0},
		{math.MinInt64, 1 << 62, 0}, {math.MaxInt64, 1 << 62, 1<<62 - 1}, {5, 0, 0}, {5, 6, 0}, {5, -8, 0},
	} {
		if v := word.Mask(x.n, x.to); v != x.want {
			t.Errorf("Mask(%d, %d) = %d; want %d", x.n, x.to, v, x.want)
		}
	}
}

func TestBytes(t *testing.T) {
	v := uint64(0x0807060504030201)
	for n := range 9 {
		b := word.Bytes(v, n)
		if !bytes.Equal(b, []byte{1, 2, 3, 4, 5, 6, 7, 8}[:n]) {
			t.Errorf("Bytes of %d: %v", n, b)
		}
	}
	for _, n := range []int{-1, 9, math.MaxInt, math.MinInt} {
		if len(word.Bytes(v, n)) != 0 {
			t.Errorf("Bytes of %d: some", n)
		}
	}
	if b := word.Bytes(258, 2); !bytes.Equal(b, []byte{2, 1}) {
		t.Error(b)
	}
}

func TestNumber(t *testing.T) {
	for _, x := range []struct {
		b    []byte
		want uint64
	}{
		{nil, 0}, {[]byte{7}, 7}, {[]byte{2, 1}, 258},
		{[]byte{1, 0, 0, 0, 0, 0, 0, 128}, 1<<63 | 1},
		{[]byte{1, 0, 0, 0, 0, 0, 0, 0, 9, 9}, 1},
	} {
		if v := word.Number(x.b); v != x.want {
			t.Errorf("Number(%v) = %d; want %d", x.b, v, x.want)
		}
	}
	for _, v := range []uint64{0, 1, 1 << 63, math.MaxUint64, 0x123456789abcdef0} {
		if word.Number(word.Bytes(v, 8)) != v {
			t.Errorf("%d isn't told by its bytes", v)
		}
	}
}

func TestChunks(t *testing.T) {
	if l := word.Chunks(17); !slices.Equal(l, []int{8, 8, 1}) {
		t.Error(l)
	}
	for _, n := range []int{1, 7, 8, 9, 64, 1023, api.MaxBuffer} {
		sum := 0
		l := word.Chunks(n)
		for i, k := range l {
			sum += k
			if k < 1 || k > api.MaxChunk || i < len(l)-1 && k != 8 {
				t.Errorf("Chunks(%d): %d at %d", n, k, i)
			}
		}
		if sum != n {
			t.Errorf("Chunks(%d) make %d", n, sum)
		}
	}
	for _, n := range []int{0, -1, math.MinInt, api.MaxBuffer + 1, math.MaxInt} {
		if len(word.Chunks(n)) != 0 {
			t.Errorf("Chunks(%d): some", n)
		}
	}
}
