package appends_test

import (
	"bytes"
	"math"
	"slices"
	"testing"

	"millstream/api"
	"millstream/appends"
	"millstream/drill"
	"millstream/head"
	"millstream/meta"
	"millstream/place"
	"millstream/steps"
)

func log() api.Log {
	return api.Log{Base: 8, Term: 512, Mtu: 32, Subs: 1, Initial: 5, Session: -7, Stream: 9}
}

func TestArguments(t *testing.T) {
	for i, x := range []struct {
		a *appends.Append
		e api.Errno
	}{
		{nil, api.ErrArg}, {appends.New(api.Log{}, 0, make([]byte, 999)), api.ErrArg}, {appends.New(log(), 0, make([]byte, 65)), api.ErrLong}, {appends.New(log(), 0, make([]byte, 64)), api.ErrBusy},
	} {
		if v, e := x.a.Result(); v || e != x.e {
			t.Error(i, v, e)
		}
		if _, ok := x.a.Next(); ok != (x.e == api.ErrBusy) {
			t.Error(i, ok)
		}
		if s, ok := x.a.Slot(); ok || s != (api.Slot{}) {
			t.Error(i, s)
		}
		x.a.Take(api.Answer{})
	}
}

// frame is what writes a frame.
func frame(at int, f api.Frame, b string) []api.Access {
	n := f.Length
	f.Length = -n
	w := head.Words(f)
	var l []api.Access
	for i, v := range w {
		l = append(l, steps.Store8(at+8*i, v))
	}
	for i := 0; i < len(b); i += 8 {
		c := b[i:min(i+8, len(b))]
		l = append(l, api.Access{Kind: api.Write, At: at + 32 + i, N: len(c), B: []byte(c)})
	}
	return append(l, steps.Store4(at, uint32(n)))
}

const tailAt = 8 + 3*512

func TestAccesses(t *testing.T) {
	for name, x := range map[string]struct {
		count   uint32
		data    string
		raw     uint64
		slot    api.Slot
		frames  []api.Access
		tripped bool
	}{
		"of no bytes": {
			0, "", place.Pack(5, 0), api.Slot{Part: 0, Term: 5, Offset: 0, Size: 32},
			frame(8, api.Frame{Length: 32, Flags: 192, Type: 1, Offset: 0, Session: -7, Stream: 9, Term: 5}, ""), false,
		},
		"one frame, up to the end": {
			4, "abcdefghi", place.Pack(math.MinInt32, 448), api.Slot{Part: 1, Term: math.MinInt32, Offset: 448, Size: 64},
			frame(8+512+448, api.Frame{Length: 41, Flags: 192, Type: 1, Offset: 448, Session: -7, Stream: 9, Term: math.MinInt32}, "abcdefghi"), false,
		},
		"two frames": {
			2, "0123456789abcdef0123456789abcdefx", place.Pack(7, 64), api.Slot{Part: 2, Term: 7, Offset: 64, Size: 128},
			slices.Concat(
				frame(8+1024+64, api.Frame{Length: 64, Flags: 128, Type: 1, Offset: 64, Session: -7, Stream: 9, Term: 7}, "0123456789abcdef0123456789abcdef"),
				frame(8+1024+128, api.Frame{Length: 33, Flags: 64, Type: 1, Offset: 128, Session: -7, Stream: 9, Term: 7}, "x")), false,
		},
		"tripped": {
			0, "x", place.Pack(6, 480), api.Slot{Part: 0, Term: 6, Offset: 480, Size: 64},
			frame(8+480, api.Frame{Length: 32, Type: 0, Offset: 480, Session: -7, Stream: 9, Term: 6}, ""), true,
		},
		"tripped, nothing is left": {0, "x", place.Pack(6, 512), api.Slot{Part: 0, Term: 6, Offset: 512, Size: 64}, nil, true},
		"tripped, far behind":      {0, "", place.Pack(6, math.MaxUint32), api.Slot{Part: 0, Term: 6, Offset: math.MaxUint32, Size: 32}, nil, true},
	} {
		given := []byte(x.data)
		a := appends.New(log(), x.count, given)
		clear(given)
		want := append([]api.Access{steps.Add8(tailAt+8*x.slot.Part, uint64(x.slot.Size))}, x.frames...)
		got := drill.Tell(a, drill.Number(x.raw))
		if s, ok := a.Slot(); !ok || s != x.slot {
			t.Errorf("%s: %+v", name, s)
		}
		if _, e := a.Result(); len(x.frames) > 0 && e != api.ErrBusy {
			t.Errorf("%s: %d", name, e)
		}
		got = append(got[:1:1], drill.Tell(a, make([]api.Answer, 40)...)...)
		if !drill.Alike(got, want) {
			t.Errorf("%s: %+v, want %+v", name, got, want)
		}
		if v, e := a.Result(); v != x.tripped || e != api.OK {
			t.Errorf("%s: %v, %d", name, v, e)
		}
	}
}

func TestWhateverItIsTold(t *testing.T) {
	r := drill.Rand(20)
	for range 500 {
		if n := drill.Fuzz(&r, appends.New(log(), uint32(r.Next()), r.Bytes(r.Below(65))), 50); n < 1 || n == 50 {
			t.Fatal(n)
		}
	}
}

// TestAtOnce: messages that some append at once stand one behind the other, whole, up to the term's end.
func TestAtOnce(t *testing.T) {
	r := drill.Rand(21)
	for range 200 {
		l := log()
		b := drill.Buffer(8 + meta.Size(l))
		drill.Run(b, meta.New(l), 20)
		var all []*appends.Append
		var data [][]byte
		for i := range 12 {
			data = append(data, r.Bytes(r.Below(65)))
			all = append(all, appends.New(l, 0, data[i]))
		}
		for range 400 {
			drill.Step(b, all[r.Below(12)])
		}
		at := int64(0)
		for at < 512 {
			k := slices.IndexFunc(all, func(a *appends.Append) bool {
				drill.Run(b, a, 100)
				s, _ := a.Slot()
				return s.Offset == at
			})
			if k < 0 {
				break
			}
			s, _ := all[k].Slot()
			tripped, _ := all[k].Result()
			joined := []byte(nil)
			for end := min(at+s.Size, 512); at < end; {
				var w [4]uint64
				for i := range w {
					w[i] = drill.Peek(b, 8+int(at)+8*i)
				}
				f := head.Frame(w)
				if (f.Type == api.TypePad) != tripped || int64(f.Offset) != at || f.Length < 32 || f.Term != 5 {
					t.Fatalf("%+v at %d", f, at)
				}
				joined = append(joined, b.Bytes()[8+at+32:8+at+int64(f.Length)]...)
				size, _ := head.FrameSize(int(f.Length) - 32)
				at += int64(size)
			}
			if !tripped && !bytes.Equal(joined, data[k]) {
				t.Fatal("a message isn't whole")
			}
		}
		if _, end := place.Unpack(drill.Peek(b, tailAt)); at != min(int64(end), 512) {
			t.Fatalf("frames up to %d, claimed up to %d", at, end)
		}
	}
}
