package ringput_test

import (
	"bytes"
	"math"
	"testing"

	"millstream/api"
	"millstream/drill"
	"millstream/head"
	"millstream/ringput"
	"millstream/steps"
)

var small = api.Ring{Base: 8, Size: 64}

func TestCheck(t *testing.T) {
	for _, x := range []struct {
		r api.Ring
		e api.Errno
	}{
		{small, api.OK}, {api.Ring{Size: 8192}, api.OK}, {api.Ring{Base: api.MaxBuffer - 96, Size: 64}, api.OK},
		{api.Ring{Base: api.MaxBuffer - 88, Size: 64}, api.ErrArg}, {api.Ring{Base: 4, Size: 64}, api.ErrArg},
		{api.Ring{Base: -8, Size: 64}, api.ErrArg}, {api.Ring{Size: 32}, api.ErrArg}, {api.Ring{Size: 16384}, api.ErrArg},
		{api.Ring{Size: 96}, api.ErrArg}, {api.Ring{}, api.ErrArg}, {api.Ring{Base: math.MaxInt, Size: math.MaxInt}, api.ErrArg},
		{api.Ring{Base: math.MinInt, Size: math.MinInt}, api.ErrArg},
	} {
		if e := ringput.Check(x.r); e != x.e {
			t.Errorf("%+v: %d", x.r, e)
		}
	}
	if ringput.RingTail != 32 {
		t.Error("RingTail")
	}
}

func TestRefused(t *testing.T) {
	for _, x := range []struct {
		r   api.Ring
		typ int32
		n   int
		e   api.Errno
	}{
		{api.Ring{Size: 65}, 1, 99, api.ErrArg}, {small, 0, 99, api.ErrArg}, {small, -1, 0, api.ErrArg},
		{small, 1, 9, api.ErrLong}, {small, 1, 8, api.ErrBusy}, {api.Ring{Size: 8192}, 1, 1024, api.ErrBusy}, {api.Ring{Size: 8192}, 1, 1025, api.ErrLong},
	} {
		p := ringput.New(x.r, x.typ, make([]byte, x.n))
		if v, e := p.Result(); v != 0 || e != x.e {
			t.Errorf("%+v: %d, %d", x, v, e)
		}
		if _, ok := p.Next(); ok != (x.e == api.ErrBusy) {
			t.Errorf("%+v: %v", x, ok)
		}
		if v, ok := p.At(); ok || v != 0 {
			t.Errorf("%+v stands at %d", x, v)
		}
	}
	var p *ringput.Put
	p.Take(api.Answer{})
	if _, ok := p.Next(); ok {
		t.Error("a nil machine goes on")
	}
	if _, e := p.Result(); e != api.ErrArg {
		t.Error(e)
	}
	if _, ok := p.At(); ok {
		t.Error("a nil machine stands somewhere")
	}
}

func write(at int, b string) api.Access {
	return api.Access{Kind: api.Write, At: at, N: len(b), B: []byte(b)}
}

// The numbers of the small ring.
const (
	tailAt = 72
	copyAt = 80
	headAt = 88
)

func TestAccesses(t *testing.T) {
	done := api.Answer{Done: true}
	begun := head.Record(-12, 7)
	for name, x := range map[string]struct {
		told []api.Answer
		want []api.Access
		at   int64
		e    api.Errno
	}{
		"an empty ring": {
			[]api.Answer{{}, {}, done, {}, {}, {}},
			[]api.Access{steps.Load8(copyAt), steps.Load8(tailAt), steps.Cas8(tailAt, 0, 16), steps.Store8(8, begun), write(16, "abcd"), steps.Store4(8, 12)}, 0, api.OK,
		},
		"somebody was ahead": {
			[]api.Answer{{}, {}, {V: 24}, drill.Number(24), done, {}, {}, {}},
			[]api.Access{steps.Load8(copyAt), steps.Load8(tailAt), steps.Cas8(tailAt, 0, 16), steps.Load8(tailAt), steps.Cas8(tailAt, 24, 40), steps.Store8(32, begun), write(40, "abcd"), steps.Store4(32, 12)}, 24, api.OK,
		},
		"full": {
			[]api.Answer{{}, drill.Number(56), drill.Number(0)},
			[]api.Access{steps.Load8(copyAt), steps.Load8(tailAt), steps.Load8(headAt)}, 0, api.ErrFull,
		},
		"the head went on": {
			[]api.Answer{drill.Number(8), drill.Number(64), drill.Number(24), {}, done, {}, {}, {}},
			[]api.Access{steps.Load8(copyAt), steps.Load8(tailAt), steps.Load8(headAt), steps.Store8(copyAt, 24), steps.Cas8(tailAt, 64, 80), steps.Store8(8, begun), write(16, "abcd"), steps.Store4(8, 12)}, 64, api.OK,
		},
		"just full room": {
			[]api.Answer{{}, drill.Number(48), done, {}, {}, {}},
			[]api.Access{steps.Load8(copyAt), steps.Load8(tailAt), steps.Cas8(tailAt, 48, 64), steps.Store8(56, begun), write(64, "abcd"), steps.Store4(56, 12)}, 48, api.OK,
		},
		"round the end": {
			[]api.Answer{drill.Number(48), drill.Number(56), done, {}, {}, {}, {}},
			[]api.Access{steps.Load8(copyAt), steps.Load8(tailAt), steps.Cas8(tailAt, 56, 80), steps.Store8(64, head.Record(8, -1)), steps.Store8(8, begun), write(16, "abcd"), steps.Store4(8, 12)}, 64, api.OK,
		},
		"round the end, by the newest head": {
			[]api.Answer{drill.Number(8), drill.Number(56), drill.Number(16), {}, done, {}, {}, {}, {}},
			[]api.Access{steps.Load8(copyAt), steps.Load8(tailAt), steps.Load8(headAt), steps.Store8(copyAt, 16), steps.Cas8(tailAt, 56, 80), steps.Store8(64, head.Record(8, -1)), steps.Store8(8, begun), write(16, "abcd"), steps.Store4(8, 12)}, 64, api.OK,
		},
		"round the end, then somebody was ahead": {
			[]api.Answer{drill.Number(48), drill.Number(56), {V: 80}, drill.Number(80), done, {}, {}, {}},
			[]api.Access{steps.Load8(copyAt), steps.Load8(tailAt), steps.Cas8(tailAt, 56, 80), steps.Load8(tailAt), steps.Cas8(tailAt, 80, 96), steps.Store8(24, begun), write(32, "abcd"), steps.Store4(24, 12)}, 80, api.OK,
		},
		"no room at the beginning": {
			[]api.Answer{drill.Number(8), drill.Number(56), drill.Number(8)},
			[]api.Access{steps.Load8(copyAt), steps.Load8(tailAt), steps.Load8(headAt)}, 0, api.ErrFull,
		},
		"numbers that go round": {
			[]api.Answer{drill.Number(1<<63 - 64), drill.Number(1<<63 - 16), done, {}, {}, {}},
			[]api.Access{steps.Load8(copyAt), steps.Load8(tailAt), steps.Cas8(tailAt, 1<<63-16, 1<<63), steps.Store8(56, begun), write(64, "abcd"), steps.Store4(56, 12)}, 1<<63 - 16, api.OK,
		},
	} {
		p := ringput.New(small, 7, []byte("abcd"))
		if got := drill.Tell(p, x.told...); !drill.Alike(got, x.want) {
			t.Errorf("%s: %+v", name, got)
		}
		if v, e := p.Result(); v != x.at || e != x.e {
			t.Errorf("%s: %d, %d", name, v, e)
		}
		if v, ok := p.At(); v != x.at || ok != (x.e == api.OK) {
			t.Errorf("%s: at %d, %v", name, v, ok)
		}
	}
}

// TestAtFromTheCas: the position is told as soon as the tail was moved on.
func TestAtFromTheCas(t *testing.T) {
	p := ringput.New(small, 1, nil)
	drill.Tell(p, drill.Number(0), drill.Number(24))
	if _, ok := p.At(); ok {
		t.Error("told ahead of the Cas")
	}
	p.Take(api.Answer{Done: true})
	if v, ok := p.At(); !ok || v != 24 {
		t.Error(v, ok)
	}
	if v, e := p.Result(); v != 0 || e != api.ErrBusy {
		t.Error(v, e)
	}
}

func TestWhateverItIsTold(t *testing.T) {
	r := drill.Rand(4)
	for range 500 {
		p := ringput.New(small, 1, r.Bytes(r.Below(9)))
		if drill.Fuzz(&r, p, 300) < 0 {
			t.Fatal("an access changed")
		}
	}
}

// TestAlone: messages stand one behind the other, as many as have room.
func TestAlone(t *testing.T) {
	b := drill.Buffer(8 + 64 + ringput.RingTail)
	at := 0
	for i := range 9 {
		data := bytes.Repeat([]byte{byte('a' + i)}, i%5)
		need, _ := head.RecordSize(len(data))
		given := append([]byte(nil), data...)
		p := ringput.New(small, int32(i+1), given)
		clear(given)
		drill.Run(b, p, 100)
		v, e := p.Result()
		if at+need > 64 {
			if e != api.ErrFull {
				t.Errorf("message %d: %d", i, e)
			}
			continue
		}
		if e != api.OK || v != int64(at) {
			t.Fatalf("message %d: %d, %d", i, v, e)
		}
		if h := drill.Peek(b, 8+at); h != head.Record(int32(8+len(data)), int32(i+1)) || !bytes.Equal(b.Bytes()[16+at:16+at+len(data)], data) {
			t.Errorf("message %d isn't whole", i)
		}
		at += need
		if drill.Peek(b, tailAt) != uint64(at) {
			t.Error("tail:", drill.Peek(b, tailAt))
		}
	}
	if at < 56 {
		t.Error("room is left:", at)
	}
}
