package ring_test

import (
	"bytes"
	"slices"
	"testing"

	"millstream/api"
	"millstream/drill"
	"millstream/head"
	"millstream/ring"
	"millstream/ringput"
	"millstream/sched"
	"millstream/word"
)

var small = api.Ring{Base: 8, Size: 64}

func message(typ int32, s string) api.Message { return api.Message{Type: typ, Data: []byte(s)} }

func TestFill(t *testing.T) {
	b := drill.Buffer(104)
	l := []api.Message{message(1, "abcd"), message(0, "x"), message(1, "123456789"), message(2, ""), message(3, "12345678"), message(4, "1"), message(5, "1"), message(6, "1")}
	f := ring.Fill(small, l, 2)
	l[0].Data[0], l[4].Data[0] = 'z', 'z'
	if len(f.Done()) != 0 || len(f.Places()) != 0 {
		t.Error("something is done")
	}
	n := len(drill.Run(b, f, 1000))
	ok := api.OK
	if !slices.Equal(f.Done(), []api.Errno{ok, api.ErrArg, api.ErrLong, ok, ok, ok, api.ErrFull, api.ErrFull}) {
		t.Error(f.Done())
	}
	if !slices.Equal(f.Places(), []int64{0, 16, 24, 40}) {
		t.Error(f.Places())
	}
	if want := 6 + 5 + 6 + 6 + 3 + 2*3 + 3; n != want {
		t.Errorf("%d accesses, want %d: tries are for all messages together", n, want)
	}
	if string(b.Bytes()[16:20]) != "abcd" || string(b.Bytes()[40:48]) != "12345678" {
		t.Error("what was handed in was kept")
	}
	f.Done()[0], f.Places()[0] = 9, 9
	if f.Done()[0] != ok || f.Places()[0] != 0 {
		t.Error("answers are shared")
	}
	if got := ring.Fill(api.Ring{}, l, -3).Done(); len(got) != len(l) || got[0] != api.ErrArg {
		t.Error(got)
	}
}

func TestLimits(t *testing.T) {
	many := make([]api.Message, api.MaxOps+5)
	if got := ring.Fill(api.Ring{}, many, 0).Done(); len(got) != api.MaxOps {
		t.Error(len(got))
	}
	b := drill.Buffer(104)
	if n := len(drill.Run(b, ring.Drain(small, 1000, 1), 1000)); n != 2*api.MaxOps {
		t.Error("drained:", n)
	}
	if n := len(drill.Run(b, ring.Mend(small, 1000), 1000)); n != 2*api.MaxOps {
		t.Error("mended:", n)
	}
	var f *ring.Filler
	var d *ring.Drainer
	var m *ring.Mender
	if len(f.Done())+len(f.Places())+len(d.Messages())+m.Bytes() != 0 {
		t.Error("nil ones do something")
	}
	for i, x := range []sched.Machine{ring.Fill(small, nil, 1), ring.Drain(small, 0, 1), ring.Drain(small, -1, 1), ring.Drain(small, 3, 0), ring.Mend(small, 0), ring.Mend(api.Ring{}, 4), f, d, m} {
		x.Take(api.Answer{V: 1})
		if _, ok := x.Next(); ok {
			t.Error(i, "goes on")
		}
	}
}

func TestDrain(t *testing.T) {
	b := drill.Buffer(104)
	drill.Run(b, ring.Fill(small, []api.Message{message(1, "a"), message(2, "bc")}, 0), 100)
	d := ring.Drain(small, 2, 2)
	drill.Run(b, d, 3)
	if l := d.Messages(); len(l) != 1 || string(l[0].Data) != "a" {
		t.Error("of a Get that isn't at its end:", l)
	}
	drill.Run(b, d, 100)
	l := d.Messages()
	if len(l) != 2 || l[1].Type != 2 || string(l[1].Data) != "bc" {
		t.Fatal(l)
	}
	l[1].Data[0] = 'x'
	if string(d.Messages()[1].Data) != "bc" {
		t.Error("shared")
	}
}

func TestUsed(t *testing.T) {
	set := func(tail, first uint64, records ...uint64) []byte {
		b := make([]byte, 8+64+24)
		at := 8 + int(first%64)
		for _, v := range records {
			copy(b[at:], word.Bytes(v, 8))
			at += int(uint32(v)+7) &^ 7
			if at == 72 {
				at = 8
			}
		}
		copy(b[72:], word.Bytes(tail, 8))
		copy(b[88:], word.Bytes(first, 8))
		return b
	}
	pad := func(n int32) uint64 { return head.Record(n, -1) }
	rec := func(n int32) uint64 { return head.Record(n, 1) }
	for name, x := range map[string]struct {
		b    []byte
		r    api.Ring
		want int
		e    api.Errno
	}{
		"empty":                {set(0, 0), small, 0, api.OK},
		"two":                  {set(40, 0, rec(9), rec(24)), small, 40, api.OK},
		"one that was begun":   {set(40, 0, rec(9), rec(-9)), small, 16, api.OK},
		"none that was begun":  {set(40, 0, rec(9)), small, 16, api.OK},
		"round the end":        {set(88, 48, pad(16), rec(20)), small, 40, api.OK},
		"all":                  {set(64, 0, pad(64)), small, 64, api.OK},
		"too far apart":        {set(72, 0, pad(64)), small, 0, api.ErrOdd},
		"the head is ahead":    {set(0, 8), small, 0, api.ErrOdd},
		"too short":            {set(40, 0, rec(7)), small, 0, api.ErrOdd},
		"of one byte":          {set(40, 0, rec(1)), small, 0, api.ErrOdd},
		"past the end":         {set(96, 48, rec(17)), small, 0, api.ErrOdd},
		"past the tail":        {set(16, 0, rec(17)), small, 0, api.ErrOdd},
		"the greatest":         {set(16, 0, rec(1<<31-1)), small, 0, api.ErrOdd},
		"numbers go round":     {set(1<<63+8, 1<<63-8, pad(8), rec(8)), small, 16, api.OK},
		"no ring":              {set(0, 0), api.Ring{Size: 63}, 0, api.ErrArg},
		"not enough bytes":     {set(0, 0)[:95], small, 0, api.ErrArg},
		"no bytes":             {nil, small, 0, api.ErrArg},
		"a head within a word": {set(64, 63, 0xff), small, 0, api.ErrOdd},
	} {
		if n, e := ring.Used(x.b, x.r); n != x.want || e != x.e {
			t.Errorf("%s: %d, %d", name, n, e)
		}
	}
}

// play lets fillers, a drainer and, where all fillers stopped for ever, a mender take turns: what was put, and what was drained.
func play(t *testing.T, r *drill.Rand, stop bool) {
	b := drill.Buffer(8 + 64 + ringput.RingTail)
	var l []sched.Machine
	var fillers []*ring.Filler
	for i := range 3 {
		var m []api.Message
		for j := range 1 + r.Below(6) {
			m = append(m, api.Message{Type: int32(i + 1), Data: append([]byte{byte(j)}, r.Bytes(r.Below(8))...)})
		}
		fillers = append(fillers, ring.Fill(small, m, r.Below(30)))
		l = append(l, fillers[i])
	}
	d := ring.Drain(small, 60, 1+r.Below(3))
	l = append(l, d, ring.Mend(small, 60))
	w := sched.New(b, l)
	for range r.Below(250) {
		w.Pick(api.Pick{Kind: api.PickStep, Actor: r.Below(4)})
	}
	for i := range 3 {
		if stop {
			w.Silence(i)
			continue
		}
		for !w.Ended(i) {
			w.Pick(api.Pick{Kind: api.PickStep, Actor: i})
			w.Pick(api.Pick{Kind: api.PickStep, Actor: 3})
		}
	}
	w.Robin(100000)
	got := d.Messages()
	for range 12 {
		d, m := ring.Drain(small, 9, 3), ring.Mend(small, 5)
		sched.New(b, []sched.Machine{d, m}).Robin(100000)
		got = append(got, d.Messages()...)
	}
	held(t, fillers, got)
}

// held asks whether what was drained is what was put, in the order of positions.
func held(t *testing.T, fillers []*ring.Filler, got []api.Message) {
	t.Helper()
	type put struct {
		at int64
		m  int32
	}
	var want []put
	for i, f := range fillers {
		for _, at := range f.Places() {
			want = append(want, put{at, int32(i + 1)})
		}
	}
	slices.SortFunc(want, func(a, b put) int { return int(a.at - b.at) })
	if len(want) != len(got) {
		t.Fatalf("%d put, %d drained", len(want), len(got))
	}
	var last [4]int
	for i := range got {
		if got[i].Type != want[i].m {
			t.Fatalf("message %d is of %d, want %d", i, got[i].Type, want[i].m)
		}
		if k := int(got[i].Data[0]) + 1; k <= last[got[i].Type] {
			t.Fatalf("filler %d: %d behind %d", got[i].Type, k-1, last[got[i].Type]-1)
		} else {
			last[got[i].Type] = k
		}
	}
}

func TestTurns(t *testing.T) {
	r := drill.Rand(9)
	for range 300 {
		play(t, &r, false)
		play(t, &r, true)
	}
}

// TestOrder: of one filler the messages come in its order, with the bytes that were put.
func TestOrder(t *testing.T) {
	r := drill.Rand(10)
	for range 100 {
		b := drill.Buffer(104)
		var m []api.Message
		for i := range 20 {
			m = append(m, api.Message{Type: int32(i + 1), Data: r.Bytes(r.Below(9))})
		}
		f, d := ring.Fill(small, m, 1<<30), ring.Drain(small, 64, 3)
		w := sched.New(b, []sched.Machine{f, d})
		for !w.Ended(0) && !w.Ended(1) {
			w.Pick(api.Pick{Kind: api.PickStep, Actor: r.Below(2)})
		}
		got := d.Messages()
		for i := range got {
			if got[i].Type != m[i].Type || !bytes.Equal(got[i].Data, m[i].Data) {
				t.Fatalf("message %d: %v, want %v", i, got[i], m[i])
			}
		}
	}
}

func TestMend(t *testing.T) {
	b := drill.Buffer(104)
	f := ring.Fill(small, []api.Message{message(1, "abc")}, 0)
	drill.Run(b, f, 4)
	m := ring.Mend(small, 2)
	drill.Run(b, m, 100)
	if m.Bytes() != 11 {
		t.Error(m.Bytes())
	}
}
