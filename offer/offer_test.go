package offer_test

import (
	"bytes"
	"math"
	"testing"

	"millstream/api"
	"millstream/appends"
	"millstream/drill"
	"millstream/head"
	"millstream/meta"
	"millstream/offer"
	"millstream/place"
	"millstream/rotate"
	"millstream/steps"
)

func log() api.Log { return api.Log{Term: 256, Mtu: 32, Subs: 1, Initial: 5} }

const (
	m       = 3 * 256
	active  = m + 24
	limitAt = m + 32
)

func TestArguments(t *testing.T) {
	for i, x := range []struct {
		o *offer.Offer
		e api.Errno
	}{
		{nil, api.ErrArg}, {offer.New(api.Log{}, make([]byte, 999)), api.ErrArg}, {offer.New(log(), make([]byte, 33)), api.ErrLong}, {offer.New(log(), make([]byte, 32)), api.ErrBusy},
	} {
		if v, e := x.o.Result(); v != 0 || e != x.e {
			t.Error(i, v, e)
		}
		if _, ok := x.o.Next(); ok != (x.e == api.ErrBusy) {
			t.Error(i, ok)
		}
		if s, ok := x.o.Slot(); ok || s != (api.Slot{}) {
			t.Error(i, s)
		}
		x.o.Take(api.Answer{})
	}
}

// TestRefused: what ends ahead of its Add did three Loads, and nothing else.
func TestRefused(t *testing.T) {
	n := drill.Number
	last := uint32(api.MaxTerms - 1)
	for name, x := range map[string]struct {
		limit uint64
		count uint32
		term  int32
		at    uint32
		e     api.Errno
	}{
		"another term":                   {99, 1, 5, 0, api.ErrAdmin},
		"another term, far":              {99, api.MaxTerms, 5, 0, api.ErrAdmin},
		"too many terms":                 {math.MaxInt64, api.MaxTerms, math.MinInt32 + 5, 0, api.ErrMax},
		"at the limit":                   {64, 0, 5, 64, api.ErrFull},
		"a limit below 0":                {1 << 63, 0, 5, 0, api.ErrFull},
		"behind the limit":               {256, 0, 5, 999, api.ErrFull},
		"past the greatest":              {0, last, math.MinInt32 + 4, 256, api.ErrMax},
		"just past it":                   {0, last, math.MinInt32 + 4, 200, api.ErrMax},
		"just up to the end":             {0, last, math.MinInt32 + 4, 192, api.ErrFull},
		"the position is the term's end": {512, 1, 6, math.MaxUint32, api.ErrFull},
	} {
		o := offer.New(log(), []byte("x"))
		part := place.Part(x.count)
		want := []api.Access{steps.Load8(limitAt), steps.Load4(active), steps.Load8(m + 8*part)}
		got := drill.Tell(o, n(x.limit), n(uint64(x.count)), n(place.Pack(x.term, x.at)))
		_, e := o.Result()
		if e != x.e || !drill.Alike(got, want) {
			t.Errorf("%s: %d, %+v", name, e, got)
		}
		if _, ok := o.Slot(); ok {
			t.Errorf("%s: has a slot", name)
		}
	}
}

// TestHandsOn: behind the three Loads it does what an Append and, where that tripped, a Rotate does.
func TestHandsOn(t *testing.T) {
	n := drill.Number
	for name, x := range map[string]struct {
		count uint32
		slot  uint64
		clean uint64
		end   int64
		e     api.Errno
	}{
		"appended":                      {0, place.Pack(5, 32), 0, 96, api.OK},
		"appended to a later term":      {0, place.Pack(8, 0), 0, 832, api.OK},
		"tripped":                       {0, place.Pack(5, 224), 0, 0, api.ErrAdmin},
		"tripped, the next isn't wiped": {3, place.Pack(8, 256), 0, 0, api.ErrAdmin},
		"tripped in the last term":      {0, place.Pack(math.MinInt32+4, 256), 0, 0, api.ErrMax},
	} {
		given := []byte("hello")
		o := offer.New(log(), given)
		clear(given)
		a := appends.New(log(), x.count, []byte("hello"))
		told := []api.Answer{n(math.MaxInt64), n(uint64(x.count)), n(place.Pack(5+int32(x.count), 0))}
		got := drill.Tell(o, told...)[:3]
		more := append([]api.Answer{n(x.slot)}, make([]api.Answer, 9)...)
		want := drill.Tell(a, more...)
		got = append(got, drill.Tell(o, more[:len(want)]...)...)
		if tripped, _ := a.Result(); tripped && x.e == api.ErrAdmin {
			r := rotate.New(log(), int32(x.slot>>32))
			told = []api.Answer{n(x.clean), n(0), n(0)}
			want = append(want, drill.Tell(r, told...)...)
			got = append(got[:len(got)-1], drill.Tell(o, told...)...)
		}
		if !drill.Alike(got[3:], want) {
			t.Errorf("%s: %+v, want %+v", name, got[3:], want)
		}
		if v, e := o.Result(); v != x.end || e != x.e {
			t.Errorf("%s: %d, %d", name, v, e)
		}
		s, ok := o.Slot()
		if w, _ := a.Slot(); !ok || s != w {
			t.Errorf("%s: %+v", name, s)
		}
	}
}

func TestWhateverItIsTold(t *testing.T) {
	r := drill.Rand(22)
	for range 1000 {
		if drill.Fuzz(&r, offer.New(log(), r.Bytes(r.Below(33))), 60) < 0 {
			t.Fatal("an access changed")
		}
	}
}

// TestUpToTheLimit: to a new log that nobody reads messages are appended up to the limit.
func TestUpToTheLimit(t *testing.T) {
	l := log()
	b := drill.Buffer(meta.Size(l))
	drill.Run(b, meta.New(l), 20)
	end := int64(0)
	for i := range 9 {
		data := bytes.Repeat([]byte{byte(i + 1)}, 7*i%33)
		before := b.Bytes()
		o := offer.New(l, data)
		drill.Run(b, o, 100)
		v, e := o.Result()
		if end >= 128 {
			if e != api.ErrFull || !bytes.Equal(before, b.Bytes()) {
				t.Fatal("behind the limit:", i, v, e)
			}
			continue
		}
		need, _ := meta.Need(l, len(data))
		if e != api.OK || v != end+need {
			t.Fatal(i, v, e)
		}
		if f := head.Frame([4]uint64{drill.Peek(b, int(end))}); f.Length != int32(32+len(data)) || !bytes.Equal(b.Bytes()[end+32:int(end)+32+len(data)], data) {
			t.Fatalf("message %d: %+v", i, f)
		}
		end = v
	}
	o := offer.New(l, nil)
	drill.Poke(b, limitAt, 1<<20)
	for _, want := range []api.Errno{api.OK, api.ErrAdmin, api.OK} {
		o = offer.New(l, make([]byte, 32))
		drill.Run(b, o, 100)
		if v, e := o.Result(); e != want {
			t.Error(v, e, want)
		}
	}
	if v, _ := o.Result(); v != 320 {
		t.Error("in the next term:", v)
	}
}
