package copies_test

import (
	"bytes"
	"math"
	"testing"

	"millstream/api"
	"millstream/copies"
	"millstream/drill"
)

func TestAccesses(t *testing.T) {
	b := []byte{1, 2, 3, 4, 5, 6, 7, 8, 9}
	for _, x := range []struct {
		m    *copies.Copy
		want []api.Access
	}{
		{copies.In(0, b), []api.Access{{Kind: api.Write, At: 0, N: 8, B: b[:8]}, {Kind: api.Write, At: 8, N: 1, B: b[8:]}}},
		{copies.Zero(3, 10), []api.Access{{Kind: api.Write, At: 3, N: 8, B: make([]byte, 8)}, {Kind: api.Write, At: 11, N: 2, B: make([]byte, 2)}}},
		{copies.Out(5, 16), []api.Access{{Kind: api.Read, At: 5, N: 8}, {Kind: api.Read, At: 13, N: 8}}},
		{copies.Out(-4, 1), []api.Access{{Kind: api.Read, At: -4, N: 1}}},
		{copies.In(0, nil), nil}, {copies.Zero(0, 0), nil}, {copies.Zero(0, -1), nil}, {copies.Out(0, math.MinInt), nil},
		{copies.Out(0, api.MaxBuffer+1), nil}, {copies.Zero(0, math.MaxInt), nil}, {copies.In(0, make([]byte, api.MaxBuffer+1)), nil}, {nil, nil},
	} {
		got := drill.Tell(x.m, make([]api.Answer, 5)...)
		if !drill.Alike(got, x.want) {
			t.Errorf("%+v, want %+v", got, x.want)
		}
		if a, ok := x.m.Next(); ok || a.Kind != 0 {
			t.Errorf("%+v isn't at its end", a)
		}
	}
}

func TestWhateverItIsTold(t *testing.T) {
	r := drill.Rand(1)
	for n := range 60 {
		chunks := (n + 7) / 8
		for _, m := range []*copies.Copy{copies.In(n, r.Bytes(n)), copies.Zero(n, n), copies.Out(n, n)} {
			if k := drill.Fuzz(&r, m, 100); k != chunks {
				t.Errorf("%d bytes took %d accesses", n, k)
			}
		}
	}
}

// TestTold: all bytes of an answer count, and only those of what is read.
func TestTold(t *testing.T) {
	m := copies.Out(0, 9)
	m.Take(api.Answer{B: []byte("abcdefghijk")})
	if !bytes.Equal(m.Bytes(), []byte("abcdefghijk")) {
		t.Errorf("%q", m.Bytes())
	}
	m.Take(api.Answer{B: []byte{}})
	m.Take(api.Answer{B: []byte("behind its end")})
	m.Bytes()[0] = 'x'
	if !bytes.Equal(m.Bytes(), []byte("abcdefghijk")) {
		t.Errorf("%q", m.Bytes())
	}
	w := copies.In(0, []byte{1})
	w.Take(api.Answer{B: []byte("told")})
	if len(w.Bytes()) != 0 || len((*copies.Copy)(nil).Bytes()) != 0 {
		t.Error("what was written counts as read")
	}
}

func TestInAndOut(t *testing.T) {
	r := drill.Rand(2)
	for _, n := range []int{1, 7, 8, 9, 63, 64, 1000} {
		for at := range 9 {
			b, data := drill.Buffer(1024), r.Bytes(n)
			given := append([]byte(nil), data...)
			in := copies.In(at, given)
			clear(given)
			drill.Run(b, in, 1000)
			out := copies.Out(at, n)
			drill.Run(b, out, 1000)
			if !bytes.Equal(out.Bytes(), data) {
				t.Fatalf("%d bytes at %d", n, at)
			}
			drill.Run(b, copies.Zero(at, n), 1000)
			if !bytes.Equal(b.Bytes(), make([]byte, 1024)) {
				t.Fatalf("%d bytes at %d aren't wiped", n, at)
			}
		}
	}
}
