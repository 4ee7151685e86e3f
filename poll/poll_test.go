package poll_test

import (
	"bytes"
	"math"
	"slices"
	"testing"

	"millstream/api"
	"millstream/drill"
	"millstream/head"
	"millstream/meta"
	"millstream/offer"
	"millstream/poll"
	"millstream/steps"
)

func log() api.Log { return api.Log{Base: 8, Term: 256, Mtu: 32, Subs: 2, Initial: 5} }

const m = 8 + 3*256

func TestArguments(t *testing.T) {
	for i, x := range []struct {
		p *poll.Poll
		e api.Errno
	}{
		{nil, api.ErrArg}, {poll.New(api.Log{}, 0, 1), api.ErrArg}, {poll.New(log(), 2, 1), api.ErrArg}, {poll.New(log(), -1, 1), api.ErrArg},
		{poll.New(log(), 0, 0), api.ErrArg}, {poll.New(log(), 0, math.MinInt), api.ErrArg}, {poll.New(log(), 1, 1), api.ErrBusy},
	} {
		if v, e := x.p.Result(); v != 0 || e != x.e {
			t.Error(i, v, e)
		}
		if _, ok := x.p.Next(); ok != (x.e == api.ErrBusy) {
			t.Error(i, ok)
		}
		if len(x.p.Fragments()) != 0 {
			t.Error(i, "has fragments")
		}
		x.p.Take(api.Answer{})
	}
}

func first(length int32, flags uint8, typ uint16) api.Answer {
	return drill.Number(head.Words(api.Frame{Length: length, Flags: flags, Type: typ})[0])
}
func third(term int32) api.Answer { return drill.Number(head.Words(api.Frame{Term: term})[2]) }
func read(at, n int) api.Access   { return api.Access{Kind: api.Read, At: at, N: n} }

func TestAccesses(t *testing.T) {
	n := drill.Number
	sub := steps.Load8(m + 56)
	move := func(v uint64) api.Access { return steps.Store8(m+56, v) }
	frag := func(end int64, flags uint8, data string) api.Fragment {
		return api.Fragment{End: end, Flags: flags, Data: []byte(data)}
	}
	for name, x := range map[string]struct {
		most int
		told []api.Answer
		want []api.Access
		list []api.Fragment
		v    int64
		e    api.Errno
	}{
		"new":          {9, []api.Answer{n(0), third(5), n(0)}, []api.Access{sub, steps.Load8(24), steps.Load8(8)}, nil, 0, api.OK},
		"another term": {9, []api.Answer{n(256), third(3)}, []api.Access{sub, steps.Load8(256 + 24)}, nil, 0, api.OK},
		"begun":        {9, []api.Answer{n(32), first(-33, 192, 1)}, []api.Access{sub, steps.Load8(40)}, nil, 0, api.OK},
		"one of two": {
			1, []api.Answer{n(0), third(5), first(42, 128, 1), {B: []byte("01234567")}, {B: []byte("89")}, {}},
			[]api.Access{sub, steps.Load8(24), steps.Load8(8), read(40, 8), read(48, 2), move(64)}, []api.Fragment{frag(64, 128, "0123456789")}, 64, api.OK,
		},
		"padding doesn't count": {
			1, []api.Answer{n(544), first(33, 0, 0), first(32, 65, 7), {}},
			[]api.Access{sub, steps.Load8(512 + 40), steps.Load8(512 + 104), move(640)}, []api.Fragment{frag(640, 65, "")}, 96, api.OK,
		},
		"up to the end": {
			9, []api.Answer{n(256*4 + 192), first(64, 0, 0), {}},
			[]api.Access{sub, steps.Load8(256 + 200), move(256 * 5)}, nil, 64, api.OK,
		},
		"odd: too short":   {9, []api.Answer{n(32), first(31, 0, 0)}, []api.Access{sub, steps.Load8(40)}, nil, 0, api.ErrOdd},
		"odd: of one byte": {9, []api.Answer{n(32), first(1, 0, 0)}, []api.Access{sub, steps.Load8(40)}, nil, 0, api.ErrOdd},
		"odd: too long":    {9, []api.Answer{n(192), first(65, 0, 1)}, []api.Access{sub, steps.Load8(200)}, nil, 0, api.ErrOdd},
		"odd behind a frame": {
			9, []api.Answer{n(32), first(33, 192, 1), {B: []byte("more")}, first(math.MaxInt32, 0, 1), {}},
			[]api.Access{sub, steps.Load8(40), read(72, 1), steps.Load8(104), move(96)}, []api.Fragment{frag(96, 192, "more")}, 0, api.ErrOdd,
		},
		"a position below 0":    {9, []api.Answer{n(1<<64 - 32)}, []api.Access{sub}, nil, 0, api.ErrOdd},
		"a position behind all": {9, []api.Answer{n(256 << 31)}, []api.Access{sub}, nil, 0, api.ErrOdd},
		"the last position":     {9, []api.Answer{n(256<<31 - 32), n(0)}, []api.Access{sub, steps.Load8(8 + 256 + 224)}, nil, 0, api.OK},
	} {
		p := poll.New(log(), 1, x.most)
		if got := drill.Tell(p, x.told...); !drill.Alike(got, x.want) {
			t.Errorf("%s: %+v", name, got)
		}
		if v, e := p.Result(); v != x.v || e != x.e {
			t.Errorf("%s: %d, %d", name, v, e)
		}
		same := func(a, b api.Fragment) bool {
			return a.End == b.End && a.Flags == b.Flags && bytes.Equal(a.Data, b.Data)
		}
		if l := p.Fragments(); !slices.EqualFunc(l, x.list, same) {
			t.Errorf("%s: %+v", name, l)
		}
	}
}

func TestSoFar(t *testing.T) {
	p := poll.New(log(), 0, 5)
	drill.Tell(p, drill.Number(32), first(33, 192, 1), api.Answer{B: []byte("a")}, first(33, 192, 1))
	if v, e := p.Result(); v != 0 || e != api.ErrBusy {
		t.Error(v, e)
	}
	l := p.Fragments()
	if len(l) != 1 {
		t.Fatal(l)
	}
	l[0].Data[0] = 'x'
	if string(p.Fragments()[0].Data) != "a" {
		t.Error("shared")
	}
}

func TestWhateverItIsTold(t *testing.T) {
	r := drill.Rand(24)
	for range 1000 {
		if n := drill.Fuzz(&r, poll.New(log(), 0, 1+r.Below(20)), 400); n < 0 || n == 400 {
			t.Fatal(n)
		}
	}
}

// TestOffered: of a log that two offer to, step by step, polls read the frames whole, in the order of positions, each once.
func TestOffered(t *testing.T) {
	r := drill.Rand(25)
	for range 300 {
		l := log()
		b := drill.Buffer(8 + meta.Size(l))
		drill.Run(b, meta.New(l), 20)
		drill.Poke(b, meta.LimitAt(l), 700)
		drill.Poke(b, meta.CleanAt(l), 1)
		var offers [2]*offer.Offer
		var data [2][]byte
		sent := map[int64][]byte{}
		var got []api.Fragment
		p := poll.New(l, 1, 3)
		start := func(k int) { data[k] = r.Bytes(r.Below(33)); offers[k] = offer.New(l, data[k]) }
		start(0)
		start(1)
		end := func(k int) {
			if v, e := offers[k].Result(); e == api.OK {
				sent[v] = data[k]
			}
		}
		for range 600 {
			if k := r.Below(3); k == 2 {
				if !drill.Step(b, p) {
					got = append(got, p.Fragments()...)
					p = poll.New(l, 1, 1+r.Below(4))
				}
			} else if !drill.Step(b, offers[k]) {
				end(k)
				start(k)
			}
		}
		for k := range offers {
			drill.Run(b, offers[k], 99)
			end(k)
		}
		for range 40 {
			drill.Run(b, p, 999)
			got = append(got, p.Fragments()...)
			p = poll.New(l, 1, 9)
		}
		last := int64(0)
		for _, f := range got {
			if want, ok := sent[f.End]; !ok || f.End <= last || f.Flags != 192 || !bytes.Equal(want, f.Data) {
				t.Fatalf("%+v behind %d", f, last)
			}
			last = f.End
		}
		if len(got) != len(sent) || len(sent) < 5 {
			t.Fatalf("%d offered, %d read", len(sent), len(got))
		}
	}
}
