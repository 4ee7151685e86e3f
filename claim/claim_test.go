package claim_test

import (
	"bytes"
	"math"
	"testing"

	"millstream/api"
	"millstream/claim"
	"millstream/drill"
	"millstream/head"
	"millstream/meta"
	"millstream/offer"
	"millstream/place"
	"millstream/steps"
)

func log() api.Log { return api.Log{Term: 512, Mtu: 32, Subs: 1, Initial: 5, Session: 3, Stream: 4} }

const m = 3 * 512

func TestArguments(t *testing.T) {
	for i, x := range []struct {
		c *claim.Claim
		e api.Errno
	}{
		{nil, api.ErrArg}, {claim.New(api.Log{}, make([]byte, 999), true), api.ErrArg}, {claim.New(log(), make([]byte, 33), true), api.ErrLong},
		{claim.New(log(), make([]byte, 33), false), api.ErrLong}, {claim.New(log(), make([]byte, 32), true), api.ErrBusy},
	} {
		if v, e := x.c.Result(); v != 0 || e != x.e {
			t.Error(i, v, e)
		}
		if _, ok := x.c.Next(); ok != (x.e == api.ErrBusy) {
			t.Error(i, ok)
		}
		if s, ok := x.c.Slot(); ok || s != (api.Slot{}) {
			t.Error(i, s)
		}
		x.c.Take(api.Answer{})
	}
}

// begun is what begins a frame, with its bytes.
func begun(at int, f api.Frame, b string) []api.Access {
	f.Length = -f.Length
	w := head.Words(f)
	var l []api.Access
	for i, v := range w {
		l = append(l, steps.Store8(at+8*i, v))
	}
	if b != "" {
		l = append(l, api.Access{Kind: api.Write, At: at + 32, N: len(b), B: []byte(b)})
	}
	return l
}

func TestAccesses(t *testing.T) {
	n := drill.Number
	start := []api.Access{steps.Load8(m + 32), steps.Load4(m + 24), steps.Load8(m + 8)}
	told := []api.Answer{n(1000), n(1), n(place.Pack(6, 32))}
	data := api.Frame{Length: 37, Flags: 192, Type: 1, Offset: 448, Session: 3, Stream: 4, Term: 6}
	pad := api.Frame{Length: 32, Offset: 480, Session: 3, Stream: 4, Term: 6}
	at := 512 + 448
	for name, x := range map[string]struct {
		commit bool
		raw    uint64
		told   []api.Answer
		want   []api.Access
		end    int64
		e      api.Errno
	}{
		"committed":       {true, place.Pack(6, 448), nil, append(begun(at, data, "hello"), steps.Store4(at, 37)), 1024, api.OK},
		"given up":        {false, place.Pack(6, 448), nil, append(begun(at, data, "hello"), steps.Store4(at+4, 0xc000), steps.Store4(at, 37)), 1024, api.OK},
		"in a later term": {true, place.Pack(9, 448), nil, append(begun(at, api.Frame{Length: 37, Flags: 192, Type: 1, Offset: 448, Session: 3, Stream: 4, Term: 9}, "hello"), steps.Store4(at, 37)), 2560, api.OK},
		"tripped": {
			true, place.Pack(6, 480), nil,
			append(begun(at+32, pad, ""), steps.Store4(at+32, 32), steps.Load8(m+40), steps.Load8(m+16), steps.Cas4(m+24, 1, 2)), 0, api.ErrAdmin,
		},
		"tripped, nothing is left": {false, place.Pack(6, 512), nil, []api.Access{steps.Load8(m + 40), steps.Load8(m + 16), steps.Cas4(m+24, 1, 2)}, 0, api.ErrAdmin},
		"tripped, not wiped":       {false, place.Pack(8, 512), nil, []api.Access{steps.Load8(m + 40)}, 0, api.ErrAdmin},
		"tripped in the last term": {true, place.Pack(math.MinInt32+4, 600), nil, nil, 0, api.ErrMax},
	} {
		given := []byte("hello")
		c := claim.New(log(), given, x.commit)
		clear(given)
		want := append(start[:3:3], steps.Add8(m+8, 64))
		got := drill.Tell(c, append(told[:3:3], n(x.raw))...)
		if s, ok := c.Slot(); !ok || s != (api.Slot{Part: 1, Term: int32(x.raw >> 32), Offset: int64(uint32(x.raw)), Size: 64}) {
			t.Errorf("%s: %+v", name, s)
		}
		got = append(got[:4:4], drill.Tell(c, make([]api.Answer, 20)...)...)
		if !drill.Alike(got, append(want, x.want...)) {
			t.Errorf("%s: %+v", name, got)
		}
		if v, e := c.Result(); v != x.end || e != x.e {
			t.Errorf("%s: %d, %d", name, v, e)
		}
	}
	for name, x := range map[string]struct {
		limit, count, raw uint64
		e                 api.Errno
	}{
		"full":           {64, 0, place.Pack(5, 64), api.ErrFull},
		"another term":   {64, 0, place.Pack(6, 0), api.ErrAdmin},
		"the greatest":   {0, api.MaxTerms - 1, place.Pack(math.MinInt32+4, 480), api.ErrMax},
		"up to it":       {0, api.MaxTerms - 1, place.Pack(math.MinInt32+4, 448), api.ErrFull},
		"too many terms": {1 << 62, api.MaxTerms, place.Pack(math.MinInt32+5, 0), api.ErrMax},
	} {
		c := claim.New(log(), []byte("hello"), true)
		l := drill.Tell(c, n(x.limit), n(x.count), n(x.raw))
		if v, e := c.Result(); v != 0 || e != x.e || len(l) != 3 {
			t.Errorf("%s: %d, %d", name, v, e)
		}
	}
}

func TestWhateverItIsTold(t *testing.T) {
	r := drill.Rand(23)
	for range 1000 {
		if drill.Fuzz(&r, claim.New(log(), r.Bytes(r.Below(33)), r.Below(2) == 0), 60) < 0 {
			t.Fatal("an access changed")
		}
	}
}

// TestAsOffered: what was committed has the bytes that an offer leaves; what was given up differs in its type alone.
func TestAsOffered(t *testing.T) {
	l := log()
	for n := range l.Mtu + 1 {
		r := drill.Rand(uint64(n))
		data := r.Bytes(n)
		play := func(commit, offered bool) []byte {
			b := drill.Buffer(meta.Size(l))
			drill.Run(b, meta.New(l), 20)
			if offered {
				drill.Run(b, offer.New(l, data), 99)
			} else {
				drill.Run(b, claim.New(l, data, commit), 99)
			}
			return b.Bytes()
		}
		want := play(false, true)
		if !bytes.Equal(play(true, false), want) {
			t.Fatalf("%d bytes, committed", n)
		}
		want[6] = api.TypePad
		if !bytes.Equal(play(false, false), want) {
			t.Fatalf("%d bytes, given up", n)
		}
	}
}
