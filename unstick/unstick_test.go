package unstick_test

import (
	"math"
	"testing"

	"millstream/api"
	"millstream/appends"
	"millstream/drill"
	"millstream/head"
	"millstream/meta"
	"millstream/place"
	"millstream/steps"
	"millstream/unstick"
)

func log() api.Log {
	return api.Log{Base: 8, Term: 256, Mtu: 32, Subs: 1, Initial: 5, Session: 3, Stream: -4}
}

const m = 8 + 3*256

func TestArguments(t *testing.T) {
	for i, x := range []struct {
		u *unstick.Unstick
		e api.Errno
	}{
		{nil, api.ErrArg}, {unstick.New(api.Log{}, 0), api.ErrArg}, {unstick.New(api.Log{Term: 256}, 0), api.ErrArg},
		{unstick.New(log(), -1), api.ErrArg}, {unstick.New(log(), 256<<31), api.ErrArg}, {unstick.New(log(), math.MinInt64), api.ErrArg},
		{unstick.New(log(), 256<<31-1), api.ErrBusy}, {unstick.New(log(), 0), api.ErrBusy},
	} {
		if v, e := x.u.Result(); v != 0 || e != x.e {
			t.Error(i, v, e)
		}
		if _, ok := x.u.Next(); ok != (x.e == api.ErrBusy) {
			t.Error(i, ok)
		}
		if a, b, ok := x.u.Mending(); ok || a != 0 || b != 0 {
			t.Error(i, a, b)
		}
		x.u.Take(api.Answer{})
	}
}

// padding is what makes n bytes padding.
func padding(part int, offset, n, term int32) []api.Access {
	w := head.Words(api.Frame{Length: n, Offset: offset, Session: 3, Stream: -4, Term: term})
	at := 8 + 256*part + int(offset)
	return []api.Access{steps.Store8(at+8, w[1]), steps.Store8(at+16, w[2]), steps.Store8(at+24, 0), steps.Store8(at, w[0])}
}

func first(length int32) api.Answer {
	return drill.Number(head.Words(api.Frame{Length: length, Flags: 192, Type: 1})[0])
}

func TestAccesses(t *testing.T) {
	n := drill.Number
	raw := func(term int32, offset uint32) api.Answer { return n(place.Pack(term, offset)) }
	load := func(at int) api.Access { return steps.Load4(8 + at) }
	tail := steps.Load8(m)
	for name, x := range map[string]struct {
		position int64
		told     []api.Answer
		want     []api.Access
		n, to    int64
	}{
		"new":                  {0, []api.Answer{raw(5, 0)}, []api.Access{tail}, 0, 0},
		"another term":         {0, []api.Answer{raw(8, 64)}, []api.Access{tail}, 0, 0},
		"nothing claimed":      {64, []api.Answer{raw(5, 64)}, []api.Access{tail}, 0, 0},
		"a whole one":          {64, []api.Answer{raw(5, 128), first(40)}, []api.Access{tail, steps.Load8(72)}, 0, 0},
		"one of one byte":      {64, []api.Answer{raw(5, 128), first(1)}, []api.Access{tail, steps.Load8(72)}, 0, 0},
		"begun":                {64, []api.Answer{raw(5, 999), first(-40)}, append([]api.Access{tail, steps.Load8(72)}, padding(0, 64, 64, 5)...), 64, 256},
		"begun, up to the end": {192, []api.Answer{raw(5, 256), first(-64)}, append([]api.Access{tail, steps.Load8(200)}, padding(0, 192, 64, 5)...), 64, 256},
		"too long":             {192, []api.Answer{raw(5, 256), first(-65)}, []api.Access{tail, steps.Load8(200)}, 0, 0},
		"the least":            {192, []api.Answer{raw(5, 256), first(math.MinInt32)}, []api.Access{tail, steps.Load8(200)}, 0, 0},
		"in a later term":      {256*4 + 32, []api.Answer{raw(9, 64), first(-32)}, append([]api.Access{steps.Load8(m + 8), steps.Load8(256 + 40)}, padding(1, 32, 32, 9)...), 32, 256*4 + 64},
		"not begun, one place": {
			32, []api.Answer{raw(5, 64), first(0), n(0)},
			append([]api.Access{tail, steps.Load8(40), load(32)}, padding(0, 32, 32, 5)...), 32, 64,
		},
		"not begun, up to the end": {
			0, []api.Answer{raw(5, 96), first(0), n(0), n(0), n(0), n(0), n(0)},
			append([]api.Access{tail, steps.Load8(8), load(32), load(64), load(64), load(32), load(0)}, padding(0, 0, 96, 5)...), 96, 96,
		},
		"not begun, up to the next": {
			0, []api.Answer{raw(5, 256), n(0), n(0), n(1), n(0), n(0)},
			append([]api.Access{tail, steps.Load8(8), load(32), load(64), load(32), load(0)}, padding(0, 0, 64, 5)...), 64, 256,
		},
		"somebody goes on, behind":   {0, []api.Answer{raw(5, 256), n(0), n(0), n(1), n(1 << 31)}, []api.Access{tail, steps.Load8(8), load(32), load(64), load(32)}, 0, 256},
		"somebody goes on, in front": {0, []api.Answer{raw(5, 256), n(0), n(7), n(1)}, []api.Access{tail, steps.Load8(8), load(32), load(0)}, 0, 256},
	} {
		u := unstick.New(log(), x.position)
		if got := drill.Tell(u, append(x.told, make([]api.Answer, 4)...)...); !drill.Alike(got, x.want) {
			t.Errorf("%s: %+v", name, got)
		}
		if v, e := u.Result(); v != x.n || e != api.OK {
			t.Errorf("%s: %d, %d", name, v, e)
		}
		from := x.position
		if x.to == 0 {
			from = 0
		}
		if a, b, ok := u.Mending(); a != from || b != x.to || ok != (x.to != 0) {
			t.Errorf("%s: mending %d, %d, %v", name, a, b, ok)
		}
	}
}

// TestMendingFromTheLoad: what is mended is told as soon as the frame's length is known.
func TestMendingFromTheLoad(t *testing.T) {
	u := unstick.New(log(), 32)
	u.Take(drill.Number(place.Pack(5, 96)))
	if _, _, ok := u.Mending(); ok {
		t.Error("told too soon")
	}
	u.Take(drill.Number(0))
	if a, b, ok := u.Mending(); a != 32 || b != 96 || !ok {
		t.Error(a, b, ok)
	}
	if v, e := u.Result(); v != 0 || e != api.ErrBusy {
		t.Error(v, e)
	}
}

func TestWhateverItIsTold(t *testing.T) {
	r := drill.Rand(29)
	for range 1000 {
		if n := drill.Fuzz(&r, unstick.New(log(), int64(r.Below(900))), 60); n < 0 || n == 60 {
			t.Fatal(n)
		}
	}
}

// TestStopped: where some stopped for ever, mending leads frames up to the end of what was claimed; what was at its end stays.
func TestStopped(t *testing.T) {
	r := drill.Rand(30)
	for range 500 {
		l := log()
		l.Term = 1024
		b := drill.Buffer(8 + meta.Size(l))
		drill.Run(b, meta.New(l), 20)
		whole := map[int64]int64{}
		for range 4 {
			a := appends.New(l, 0, r.Bytes(r.Below(100)))
			for range 1 + r.Below(40) {
				drill.Step(b, a)
			}
			s, _ := a.Slot()
			if _, e := a.Result(); e == api.OK {
				whole[s.Offset] = s.Size
			}
		}
		_, claimed := place.Unpack(drill.Peek(b, meta.TailAt(l, 0)))
		at := int64(0)
		for tries := 0; at < int64(claimed) && tries < 100; tries++ {
			if size, ok := whole[at]; ok {
				before := b.Bytes()[8+at : 8+at+size]
				drill.Run(b, unstick.New(l, at), 100)
				if string(before) != string(b.Bytes()[8+at:8+at+size]) {
					t.Fatal("a whole frame was changed")
				}
				at += size
				continue
			}
			f := head.Frame([4]uint64{drill.Peek(b, 8+int(at))})
			if f.Length > 0 {
				size, _ := head.FrameSize(int(f.Length) - 32)
				at += int64(size)
				continue
			}
			u := unstick.New(l, at)
			drill.Run(b, u, 200)
			if n, e := u.Result(); n < 32 || e != api.OK {
				t.Fatal("nothing was mended:", n, e)
			}
		}
		if at != int64(claimed) {
			t.Fatalf("frames lead to %d, claimed up to %d", at, claimed)
		}
	}
}
