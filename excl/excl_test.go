package excl_test

import (
	"bytes"
	"math"
	"slices"
	"testing"

	"millstream/actor"
	"millstream/api"
	"millstream/drill"
	"millstream/excl"
	"millstream/head"
	"millstream/meta"
	"millstream/place"
	"millstream/steps"
)

func log() api.Log {
	return api.Log{Term: 512, Mtu: 32, Subs: 2, Initial: math.MaxInt32, Session: 3, Stream: 4}
}

const m = 3 * 512

func at(count uint32, offset int64) api.Excl { return api.Excl{Count: count, Offset: offset} }

func TestArguments(t *testing.T) {
	for i, x := range []struct {
		o *excl.Offer
		s api.Excl
		e api.Errno
	}{
		{nil, api.Excl{}, api.ErrArg},
		{excl.New(api.Log{}, at(1, 32), nil), at(1, 32), api.ErrArg},
		{excl.New(log(), at(1, 33), make([]byte, 65)), at(1, 33), api.ErrLong},
		{excl.New(log(), at(1, 33), nil), at(1, 33), api.ErrArg},
		{excl.New(log(), at(1, -32), nil), at(1, -32), api.ErrArg},
		{excl.New(log(), at(1, 544), nil), at(1, 544), api.ErrArg},
		{excl.New(log(), at(1<<31, 0), nil), at(1<<31, 0), api.ErrArg},
		{excl.New(log(), at(1<<31-1, 512), nil), at(1<<31-1, 512), api.ErrBusy},
		{excl.New(log(), at(0, 0), make([]byte, 64)), at(0, 0), api.ErrBusy},
	} {
		if v, e := x.o.Result(); v != 0 || e != x.e {
			t.Error(i, v, e)
		}
		if _, ok := x.o.Next(); ok != (x.e == api.ErrBusy) || x.o.State() != x.s {
			t.Error(i, ok, x.o.State())
		}
		x.o.Take(api.Answer{})
	}
}

// frame is what writes a frame.
func frame(at int, f api.Frame, b string) []api.Access {
	n := f.Length
	f.Length = -n
	f.Session, f.Stream = 3, 4
	var l []api.Access
	for i, v := range head.Words(f) {
		l = append(l, steps.Store8(at+8*i, v))
	}
	for i := 0; i < len(b); i += 8 {
		c := b[i:min(i+8, len(b))]
		l = append(l, api.Access{Kind: api.Write, At: at + 32 + i, N: len(c), B: []byte(c)})
	}
	return append(l, steps.Store4(at, uint32(n)))
}

func TestAccesses(t *testing.T) {
	n := drill.Number
	limit, clean := steps.Load8(m+32), steps.Load8(m+40)
	tail := func(part int, term int32, offset uint32) api.Access {
		return steps.Store8(m+8*part, place.Pack(term, offset))
	}
	none := make([]api.Answer, 30)
	const low = math.MinInt32
	for name, x := range map[string]struct {
		from, to api.Excl
		data     string
		told     []api.Answer
		want     []api.Access
		end      int64
		e        api.Errno
	}{
		"of no bytes": {
			at(0, 0), at(0, 32), "", append([]api.Answer{n(1)}, none...),
			slices.Concat([]api.Access{limit, tail(0, math.MaxInt32, 32)}, frame(0, api.Frame{Length: 32, Flags: 192, Type: 1, Term: math.MaxInt32}, "")), 32, api.OK,
		},
		"two frames, up to the end": {
			at(4, 384), at(4, 512), "0123456789abcdef0123456789abcdefx", append([]api.Answer{n(1 << 40)}, none...),
			slices.Concat([]api.Access{limit, tail(1, low+3, 512)},
				frame(512+384, api.Frame{Length: 64, Flags: 128, Type: 1, Offset: 384, Term: low + 3}, "0123456789abcdef0123456789abcdef"),
				frame(512+448, api.Frame{Length: 33, Flags: 64, Type: 1, Offset: 448, Term: low + 3}, "x")), 5 * 512, api.OK,
		},
		"at the limit":    {at(1, 32), at(1, 32), "", []api.Answer{n(544)}, []api.Access{limit}, 0, api.ErrFull},
		"a limit below 0": {at(0, 0), at(0, 0), "", []api.Answer{n(1 << 63)}, []api.Access{limit}, 0, api.ErrFull},
		"no room": {
			at(1, 480), at(2, 0), "x", append([]api.Answer{n(1 << 40)}, make([]api.Answer, 9)...),
			slices.Concat([]api.Access{limit, tail(1, low, 512)}, frame(512+480, api.Frame{Length: 32, Offset: 480, Term: low}, ""),
				[]api.Access{clean, tail(2, low+1, 0), steps.Store4(m+24, 2)}), 0, api.ErrAdmin,
		},
		"at the term's end": {
			at(0, 512), at(1, 0), "x", []api.Answer{n(1 << 40), n(1<<64 - 1), {}, {}},
			[]api.Access{limit, clean, tail(1, low, 0), steps.Store4(m+24, 1)}, 0, api.ErrAdmin,
		},
		"not wiped": {at(2, 512), at(2, 512), "x", []api.Answer{n(1 << 40), n(0)}, []api.Access{limit, clean}, 0, api.ErrAdmin},
		"the last term but one": {
			at(1<<31-2, 512), at(1<<31-1, 0), "x", []api.Answer{n(1 << 62), n(1<<31 - 3), {}, {}}, []api.Access{limit, clean, tail(1, low+(1<<31-3)+1, 0), steps.Store4(m+24, 1<<31-1)}, 0, api.ErrAdmin,
		},
		"the last term": {
			at(1<<31-1, 512), at(1<<31-1, 512), "x", []api.Answer{n(1 << 62), n(1<<31 - 2)}, []api.Access{limit, clean}, 0, api.ErrMax,
		},
		"the last term, not wiped": {
			at(1<<31-1, 512), at(1<<31-1, 512), "x", []api.Answer{n(1 << 62), n(1<<31 - 3)}, []api.Access{limit, clean}, 0, api.ErrAdmin,
		},
	} {
		given := []byte(x.data)
		o := excl.New(log(), x.from, given)
		clear(given)
		if got := drill.Tell(o, x.told...); !drill.Alike(got, x.want) {
			t.Errorf("%s: %+v", name, got)
		}
		if v, e := o.Result(); v != x.end || e != x.e {
			t.Errorf("%s: %d, %d", name, v, e)
		}
		if o.State() != x.to {
			t.Errorf("%s: %+v", name, o.State())
		}
	}
}

// TestStateSoFar: the state goes on behind the Store that tells others.
func TestStateSoFar(t *testing.T) {
	o := excl.New(log(), at(0, 0), nil)
	o.Take(drill.Number(99))
	if o.State() != at(0, 0) {
		t.Error(o.State())
	}
	o.Take(api.Answer{})
	if v, e := o.Result(); o.State() != at(0, 32) || v != 0 || e != api.ErrBusy {
		t.Error(o.State(), v, e)
	}
	o = excl.New(log(), at(0, 480), []byte("x"))
	for i, want := range []api.Excl{at(0, 480), at(0, 512), at(0, 512), at(0, 512), at(0, 512), at(0, 512), at(0, 512), at(0, 512), at(0, 512), at(1, 0)} {
		o.Take(drill.Number(999))
		if o.State() != want {
			t.Error(i, o.State())
		}
		if _, e := o.Result(); (e == api.ErrBusy) != (i < 9) {
			t.Error(i, e)
		}
	}
}

func TestWhateverItIsTold(t *testing.T) {
	r := drill.Rand(40)
	for range 1000 {
		if n := drill.Fuzz(&r, excl.New(log(), at(uint32(r.Below(1<<31)), int64(r.Below(17)*32)), r.Bytes(r.Below(65))), 60); n < 1 || n == 60 {
			t.Fatal(n)
		}
	}
}

// TestReadInOrder: offered again as long as there is no room, all that read read the messages in their order.
func TestReadInOrder(t *testing.T) {
	r := drill.Rand(41)
	for range 60 {
		l := log()
		b := drill.Buffer(meta.Size(l))
		drill.Run(b, meta.New(l), 20)
		others := []steps.Machine{actor.Read(l, 0, 9999, 2), actor.Read(l, 1, 9999, 5), actor.Keep(l, 9999)}
		var s api.Excl
		var sent [][]byte
		for range 30 {
			data := r.Bytes(r.Below(65))
			for {
				o := excl.New(l, s, data)
				for drill.Step(b, o) {
					for range r.Below(9) {
						drill.Step(b, others[r.Below(3)])
					}
				}
				s = o.State()
				_, e := o.Result()
				if e == api.OK {
					sent = append(sent, data)
					break
				}
				if e != api.ErrFull && e != api.ErrAdmin {
					t.Fatal(e)
				}
			}
		}
		for range 3000 {
			for _, x := range others {
				drill.Step(b, x)
			}
		}
		for _, x := range others[:2] {
			got := x.(*actor.Reader).Messages()
			if len(got) != len(sent) {
				t.Fatalf("%d sent, %d read", len(sent), len(got))
			}
			for i := range got {
				if !bytes.Equal(got[i].Data, sent[i]) {
					t.Fatal(i, got[i])
				}
			}
		}
	}
}
