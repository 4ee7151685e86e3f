package join_test

import (
	"bytes"
	"math"
	"testing"

	"millstream/api"
	"millstream/drill"
	"millstream/join"
)

const (
	begin = api.FlagBegin
	end   = api.FlagEnd
	both  = begin | end
)

func TestPush(t *testing.T) {
	type push struct {
		flags   uint8
		data    string
		whole   string
		ok      bool
		open    int
		dropped int
	}
	j := join.New()
	if j.Open() != -1 || j.Dropped() != 0 {
		t.Error("a new joiner has something")
	}
	for i, x := range []push{
		{both, "abc", "abc", true, -1, 0},
		{both, "", "", true, -1, 0},
		{0, "x", "", false, -1, 1},
		{end, "x", "", false, -1, 2},
		{begin, "ab", "", false, 2, 2},
		{0, "cd", "", false, 4, 2},
		{end, "e", "abcde", true, -1, 2},
		{begin, "", "", false, 0, 2},
		{end, "", "", true, -1, 2},
		{begin, "1", "", false, 1, 2},
		{0, "2", "", false, 2, 2},
		{begin, "3", "", false, 1, 4},
		{both, "4", "4", true, -1, 5},
		{end | 63, "5", "", false, -1, 6},
		{both | 1, "6", "6", true, -1, 6},
		{begin | 63, "7", "", false, 1, 6},
		{63, "8", "", false, 2, 6},
		{end | 32, "9", "789", true, -1, 6},
	} {
		b, ok := j.Push(api.Fragment{Flags: x.flags, Data: []byte(x.data)})
		if string(b) != x.whole || ok != x.ok || j.Open() != x.open || j.Dropped() != x.dropped {
			t.Errorf("push %d: %q, %v; open %d, dropped %d", i, b, ok, j.Open(), j.Dropped())
		}
	}
}

func TestTooLong(t *testing.T) {
	j := join.New()
	j.Push(api.Fragment{Flags: begin, Data: []byte("x")})
	if b, ok := j.Push(api.Fragment{Flags: both, Data: make([]byte, api.MaxBuffer+1)}); ok || len(b) != 0 || j.Dropped() != 2 || j.Open() != -1 {
		t.Error("a fragment that is too long:", ok, j.Dropped(), j.Open())
	}
	if b, ok := j.Push(api.Fragment{Flags: both, Data: make([]byte, api.MaxBuffer)}); !ok || len(b) != api.MaxBuffer {
		t.Error("the greatest:", ok, len(b))
	}
	j.Push(api.Fragment{Flags: begin, Data: make([]byte, api.MaxBuffer)})
	if b, ok := j.Push(api.Fragment{Flags: end, Data: []byte("x")}); ok || len(b) != 0 || j.Dropped() != 4 || j.Open() != -1 {
		t.Error("a message that gets too long:", ok, j.Dropped(), j.Open())
	}
	j.Push(api.Fragment{Flags: begin, Data: make([]byte, api.MaxBuffer)})
	if _, ok := j.Push(api.Fragment{Flags: end}); !ok {
		t.Error("the greatest, in two")
	}
	j.Push(api.Fragment{Flags: begin, Data: make([]byte, api.MaxBuffer+1)})
	if j.Open() != -1 || j.Dropped() != 5 {
		t.Error("one that begins too long:", j.Open(), j.Dropped())
	}
}

func TestNil(t *testing.T) {
	var j *join.Joiner
	if b, ok := j.Push(api.Fragment{Flags: both, Data: []byte("x")}); ok || len(b) != 0 || j.Dropped() != 0 {
		t.Error("a nil joiner keeps something")
	}
}

func TestNewMemory(t *testing.T) {
	j := join.New()
	data := append(make([]byte, 0, 64), "ab"...)
	j.Push(api.Fragment{Flags: begin, Data: data})
	data[0] = 'x'
	more := []byte("cd")
	b, _ := j.Push(api.Fragment{Flags: end, Data: more})
	more[0] = 'y'
	if string(b) != "abcd" || data[:4][2] != 0 {
		t.Errorf("%q", b)
	}
	l := join.Cut(data, 1)
	data[1] = 'z'
	if string(l[1].Data) != "b" {
		t.Error("shared")
	}
}

func TestCut(t *testing.T) {
	for _, x := range []struct {
		b string
		n int
		l []api.Fragment
	}{
		{"", 5, []api.Fragment{{Flags: both}}},
		{"abc", 3, []api.Fragment{{Flags: both, Data: []byte("abc")}}},
		{"abcd", 2, []api.Fragment{{Flags: begin, Data: []byte("ab")}, {Flags: end, Data: []byte("cd")}}},
		{"abcde", 2, []api.Fragment{{Flags: begin, Data: []byte("ab")}, {Data: []byte("cd")}, {Flags: end, Data: []byte("e")}}},
		{"abc", math.MaxInt, []api.Fragment{{Flags: both, Data: []byte("abc")}}},
		{"abc", 0, nil}, {"abc", -1, nil},
	} {
		l := join.Cut([]byte(x.b), x.n)
		if len(l) != len(x.l) {
			t.Errorf("%q by %d: %v", x.b, x.n, l)
			continue
		}
		for i := range l {
			if l[i].Flags != x.l[i].Flags || l[i].End != 0 || !bytes.Equal(l[i].Data, x.l[i].Data) {
				t.Errorf("%q by %d: %v", x.b, x.n, l)
			}
		}
	}
	if len(join.Cut(make([]byte, api.MaxBuffer+1), 9)) != 0 || len(join.Cut(make([]byte, api.MaxBuffer), api.MaxBuffer)) != 1 {
		t.Error("the greatest length")
	}
}

// TestCutAndJoined: what is cut is joined as it was, whatever was pushed ahead of it.
func TestCutAndJoined(t *testing.T) {
	r := drill.Rand(26)
	j := join.New()
	for range 500 {
		for range r.Below(4) {
			j.Push(api.Fragment{Flags: uint8(r.Next()), Data: r.Bytes(r.Below(9))})
		}
		b := r.Bytes(r.Below(60))
		l := join.Cut(b, 1+r.Below(20))
		for i, f := range l {
			got, ok := j.Push(f)
			if ok != (i == len(l)-1) || ok && !bytes.Equal(got, b) {
				t.Fatalf("%d of %d: %v", i, len(l), got)
			}
		}
	}
}
