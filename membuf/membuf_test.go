package membuf_test

import (
	"bytes"
	"math"
	"testing"

	"millstream/api"
	"millstream/membuf"
)

func buffer(t *testing.T, size int) *membuf.Buffer {
	t.Helper()
	b, e := membuf.New(size)
	if e != api.OK {
		t.Fatal(size, e)
	}
	return b
}

func TestNew(t *testing.T) {
	for _, size := range []int{8, 16, 4096, api.MaxBuffer} {
		b := buffer(t, size)
		if b.Size() != size || b.Count() != 0 || !bytes.Equal(b.Bytes(), make([]byte, size)) {
			t.Errorf("a new buffer of %d isn't empty", size)
		}
	}
	for _, size := range []int{0, 7, 9, -8, api.MaxBuffer + 8, math.MinInt, math.MaxInt} {
		if b, e := membuf.New(size); b != nil || e != api.ErrArg {
			t.Errorf("New(%d): %d", size, e)
		}
	}
}

func TestCheck(t *testing.T) {
	for _, x := range []struct {
		a    api.Access
		want api.Errno
	}{
		{api.Access{Kind: api.Load, At: 8, N: 8}, api.OK},
		{api.Access{Kind: api.Load, At: 12, N: 4}, api.OK},
		{api.Access{Kind: api.Load, At: 12, N: 8}, api.ErrRange},
		{api.Access{Kind: api.Load, At: 4, N: 8}, api.ErrAlign},
		{api.Access{Kind: api.Load, At: 2, N: 4}, api.ErrAlign},
		{api.Access{Kind: api.Load, At: 8, N: 2}, api.ErrArg},
		{api.Access{Kind: api.Store, At: 8, N: 4, B: []byte{1}}, api.OK},
		{api.Access{Kind: api.Store, At: 16, N: 8}, api.ErrRange},
		{api.Access{Kind: api.Store, At: -8, N: 8}, api.ErrRange},
		{api.Access{Kind: api.Add, At: 0, N: 8}, api.OK},
		{api.Access{Kind: api.Add, At: 0, N: 4}, api.ErrArg},
		{api.Access{Kind: api.Add, At: 4, N: 8}, api.ErrAlign},
		{api.Access{Kind: api.Cas, At: 4, N: 4}, api.OK},
		{api.Access{Kind: api.Cas, At: 4, N: 8}, api.ErrAlign},
		{api.Access{Kind: api.Cas, At: 4, N: 0}, api.ErrArg},
		{api.Access{Kind: api.Read, At: 16, N: 0}, api.OK},
		{api.Access{Kind: api.Read, At: 17, N: 0}, api.ErrRange},
		{api.Access{Kind: api.Read, At: -1, N: 0}, api.ErrRange},
		{api.Access{Kind: api.Read, At: 9, N: 7}, api.OK},
		{api.Access{Kind: api.Read, At: 9, N: 8}, api.ErrRange},
		{api.Access{Kind: api.Read, At: 0, N: 9}, api.ErrArg},
		{api.Access{Kind: api.Read, At: 0, N: -1}, api.ErrArg},
		{api.Access{Kind: api.Write, At: 13, N: 3, B: []byte{1, 2, 3}}, api.OK},
		{api.Access{Kind: api.Write, At: 14, N: 3, B: []byte{1, 2, 3}}, api.ErrRange},
		{api.Access{Kind: api.Write, At: 0, N: 2, B: []byte{1, 2, 3}}, api.ErrArg},
		{api.Access{Kind: api.Write, At: 0, N: 9, B: make([]byte, 9)}, api.ErrArg},
		{api.Access{Kind: api.Write, At: 16}, api.OK},
		{api.Access{Kind: 0, At: -1, N: 8}, api.ErrArg},
		{api.Access{Kind: 7, At: 0, N: 8}, api.ErrArg},
		{api.Access{Kind: api.Load, At: math.MaxInt, N: 8}, api.ErrRange},
		{api.Access{Kind: api.Load, At: math.MinInt, N: 8}, api.ErrRange},
		{api.Access{Kind: api.Load, At: 13, N: 8}, api.ErrRange},
	} {
		if e := membuf.Check(16, x.a); e != x.want {
			t.Errorf("%+v: %d, want %d", x.a, e, x.want)
		}
		b := buffer(t, 16)
		before := b.Bytes()
		got, e := b.Do(x.a)
		if e != x.want {
			t.Errorf("Do %+v: %d, want %d", x.a, e, x.want)
		}
		if e != api.OK && (b.Count() != 0 || got.V != 0 || got.Done || len(got.B) != 0 || !bytes.Equal(b.Bytes(), before)) {
			t.Errorf("%+v was refused, and did something", x.a)
		}
	}
}

func do(t *testing.T, b *membuf.Buffer, a api.Access) api.Answer {
	t.Helper()
	x, e := b.Do(a)
	if e != api.OK {
		t.Fatalf("%+v: %d", a, e)
	}
	return x
}

func TestAdd(t *testing.T) {
	b := buffer(t, 16)
	for i, want := range []uint64{0, 5, 10} {
		if x := do(t, b, api.Access{Kind: api.Add, N: 8, V: 5}); x.V != want || x.Done || len(x.B) != 0 {
			t.Errorf("add %d: %+v", i, x)
		}
	}
	do(t, b, api.Access{Kind: api.Store, At: 8, N: 8, V: math.MaxUint64})
	do(t, b, api.Access{Kind: api.Add, At: 8, N: 8, V: 3})
	if x := do(t, b, api.Access{Kind: api.Load, At: 8, N: 8}); x.V != 2 {
		t.Error("a sum doesn't go round:", x.V)
	}
	if b.Count() != 6 {
		t.Error("count:", b.Count())
	}
}

func TestCas(t *testing.T) {
	b := buffer(t, 16)
	do(t, b, api.Access{Kind: api.Store, At: 8, N: 8, V: 0x1111111122222222})
	if x := do(t, b, api.Access{Kind: api.Cas, At: 8, N: 8, V: 1, W: 2}); x.V != 0x1111111122222222 || x.Done {
		t.Errorf("%+v", x)
	}
	if x := do(t, b, api.Access{Kind: api.Cas, At: 12, N: 4, V: 0xffffffff11111111, W: 0xffffffff33333333}); x.V != 0x11111111 || !x.Done {
		t.Errorf("%+v", x)
	}
	if x := do(t, b, api.Access{Kind: api.Cas, At: 12, N: 4, V: 0x11111111, W: 7}); x.V != 0x33333333 || x.Done {
		t.Errorf("%+v", x)
	}
	if x := do(t, b, api.Access{Kind: api.Cas, At: 8, N: 8, V: 0x3333333322222222, W: 9}); !x.Done {
		t.Errorf("%+v", x)
	}
	if x := do(t, b, api.Access{Kind: api.Load, At: 8, N: 8}); x.V != 9 {
		t.Errorf("%+v", x)
	}
}

// TestOwnBytes holds each access against a plain list of bytes: nothing but its own bytes is touched.
func TestOwnBytes(t *testing.T) {
	b := buffer(t, 32)
	plain := make([]byte, 32)
	for at := range 33 {
		for n := range 9 {
			l := bytes.Repeat([]byte{byte(at*9 + n + 1)}, n)
			w := api.Access{Kind: api.Write, At: at, N: n, B: l}
			if at+n > 32 {
				if _, e := b.Do(w); e != api.ErrRange {
					t.Fatal(at, n, e)
				}
				continue
			}
			if x := do(t, b, w); x.V != 0 || x.Done || len(x.B) != 0 {
				t.Errorf("a write tells %+v", x)
			}
			copy(plain[at:], l)
			if !bytes.Equal(b.Bytes(), plain) {
				t.Fatalf("write of %d at %d: %v", n, at, b.Bytes())
			}
			if x := do(t, b, api.Access{Kind: api.Read, At: at, N: n}); !bytes.Equal(x.B, l) {
				t.Fatalf("read of %d at %d: %v", n, at, x.B)
			}
		}
	}
	for at := 0; at < 32; at += 4 {
		v := uint64(0x9988776655443322) + uint64(at)
		do(t, b, api.Access{Kind: api.Store, At: at, N: 4, V: v})
		for i := range 4 {
			plain[at+i] = byte(v >> (8 * i))
		}
		if x := do(t, b, api.Access{Kind: api.Load, At: at, N: 4}); x.V != v&0xffffffff || !bytes.Equal(b.Bytes(), plain) {
			t.Fatalf("store of four at %d: %x", at, x.V)
		}
	}
}

func TestNewMemory(t *testing.T) {
	b := buffer(t, 8)
	l := []byte{1, 2}
	do(t, b, api.Access{Kind: api.Write, N: 2, B: l})
	l[0] = 9
	b.Bytes()[1] = 9
	do(t, b, api.Access{Kind: api.Read, N: 2}).B[0] = 9
	if !bytes.Equal(b.Bytes(), []byte{1, 2, 0, 0, 0, 0, 0, 0}) {
		t.Error(b.Bytes())
	}
}

func TestNil(t *testing.T) {
	var b *membuf.Buffer
	if _, e := b.Do(api.Access{Kind: api.Load, N: 8}); e != api.ErrRange || b.Size() != 0 || b.Count() != 0 || len(b.Bytes()) != 0 {
		t.Error("a nil buffer has something:", e)
	}
}
