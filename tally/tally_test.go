package tally_test

import (
	"math"
	"slices"
	"testing"

	"millstream/api"
	"millstream/audit"
	"millstream/drill"
	"millstream/steps"
	"millstream/tally"
	"millstream/world"
)

func of(actor int, a api.Access, x api.Answer) api.Event {
	return api.Event{Pick: api.Pick{Actor: actor}, Access: a, Answer: x}
}

func read(at int, told string) api.Event {
	return of(1, api.Access{Kind: api.Read, At: at, N: 3}, api.Answer{B: []byte(told)})
}
func write(at int, b string) api.Event {
	return of(2, api.Access{Kind: api.Write, At: at, N: 3, B: []byte(b)}, api.Answer{})
}

func trace() []api.Event {
	done := api.Answer{Done: true}
	return []api.Event{
		of(1, steps.Load8(8), api.Answer{V: 1}), of(1, steps.Load4(4), api.Answer{}), of(2, steps.Store8(8, 1), done), of(2, steps.Add8(16, 1), api.Answer{}),
		of(1, steps.Cas8(8, 1, 2), done), of(1, steps.Cas4(20, 1, 2), api.Answer{}), of(1, steps.Cas4(20, 1, 2), api.Answer{V: 9}), read(5, "abcdef"), read(30, ""), write(14, "12345"), write(0, ""),
		of(1, api.Access{}, api.Answer{}), of(2, api.Access{}, api.Answer{}),
		{Pick: api.Pick{Kind: api.PickTick, Actor: 1}, Access: steps.Load8(8)}, {Pick: api.Pick{Kind: api.PickKill, Actor: 1}}, {Pick: api.Pick{Kind: api.PickTick}},
	}
}

func TestTallies(t *testing.T) {
	one := api.Tally{Loads: 2, Cases: 3, Failed: 2, Reads: 2, In: 6, Idle: 1}
	two := api.Tally{Stores: 1, Adds: 1, Writes: 2, Out: 5, Idle: 1}
	all := api.Tally{Loads: 2, Stores: 1, Adds: 1, Cases: 3, Failed: 2, Reads: 2, Writes: 2, In: 6, Out: 5, Idle: 2}
	if got := tally.Actor(trace(), 1); got != one {
		t.Errorf("%+v", got)
	}
	if got := tally.Actor(trace(), 2); got != two {
		t.Errorf("%+v", got)
	}
	if got := tally.Actor(trace(), 0); got != (api.Tally{}) {
		t.Errorf("%+v", got)
	}
	if got := tally.All(trace()); got != all || tally.All(nil) != (api.Tally{}) {
		t.Errorf("%+v", got)
	}
}

func TestCells(t *testing.T) {
	want := []api.Cell{{At: 0, Looked: 2}, {At: 8, Looked: 3, Written: 3}, {At: 16, Looked: 3, Written: 2}}
	if got := tally.Cells(trace()); !slices.Equal(got, want) {
		t.Errorf("%+v", got)
	}
	if len(tally.Cells(nil)) != 0 {
		t.Error("of nothing")
	}
	for i, x := range []struct {
		e    api.Event
		want []api.Cell
	}{
		{of(0, steps.Load8(-8), api.Answer{}), nil}, {of(0, steps.Load8(math.MinInt), api.Answer{}), nil}, {of(0, steps.Load8(api.MaxBuffer+1), api.Answer{}), nil},
		{of(0, steps.Load8(api.MaxBuffer), api.Answer{}), []api.Cell{{At: api.MaxBuffer, Looked: 1}}},
		{of(0, api.Access{Kind: api.Load, N: 9}, api.Answer{}), nil}, {of(0, api.Access{Kind: api.Store, N: 0}, api.Answer{}), nil}, {of(0, api.Access{Kind: api.Add, N: -8}, api.Answer{}), nil},
		{of(0, api.Access{Kind: api.Load, N: math.MaxInt}, api.Answer{}), nil}, {of(0, api.Access{Kind: api.Load, At: 7, N: 2}, api.Answer{}), []api.Cell{{At: 0, Looked: 1}, {At: 8, Looked: 1}}},
		{read(0, "1"), []api.Cell{{At: 0, Looked: 1}}}, {read(8, "123456789"), nil}, {read(8, "12345678"), []api.Cell{{At: 8, Looked: 1}}}, {write(9, "12345678"), []api.Cell{{At: 8, Written: 1}, {At: 16, Written: 1}}}, {write(9, "123456789"), nil},
		{of(0, api.Access{Kind: api.Write, At: 8, N: 8}, api.Answer{}), nil}, {of(0, steps.Cas8(8, 0, 0), api.Answer{}), []api.Cell{{At: 8, Looked: 1}}},
	} {
		if got := tally.Cells([]api.Event{x.e}); !slices.Equal(got, x.want) {
			t.Errorf("%d: %+v", i, got)
		}
	}
}

func TestHottest(t *testing.T) {
	l := []api.Cell{{At: 0, Looked: 2}, {At: 8, Looked: 1, Written: 3}, {At: 16, Looked: 4}}
	if c, ok := tally.Hottest(l); !ok || c != l[1] {
		t.Error(c, ok)
	}
	if c, ok := tally.Hottest(nil); ok || c != (api.Cell{}) {
		t.Error(c, ok)
	}
}

func TestSpans(t *testing.T) {
	l := api.Log{Term: 256, Mtu: 32, Subs: 1}
	m := 3 * 256
	b := drill.Buffer(m + 128)
	w, _ := world.New(api.Setup{Log: l})
	for at := 0; at < m+128; at += 8 {
		drill.Poke(b, at, number(w.Bytes()[at:at+8]))
	}
	var tr []api.Event
	for i, a := range []api.Access{steps.Add8(m, 96), steps.Load8(0), steps.Add8(m, 32), steps.Store4(0, 40), steps.Store4(96, 32), steps.Store4(64, 32), steps.Add8(m, 32), steps.Store4(0, 96)} {
		x, e := b.Do(a)
		if e != api.OK {
			t.Fatal(i, e)
		}
		tr = append(tr, of(3, a, x))
	}
	spans, e := tally.Spans(l, tr)
	if e != api.OK || !slices.Equal(spans, []api.Span{{Slot: 0, From: 0, To: 5}, {Slot: 1, From: 2, To: 4}}) {
		t.Errorf("%+v, %d", spans, e)
	}
	if n := tally.Longest(spans); n != 5 || tally.Longest(nil) != 0 {
		t.Error(n)
	}
	tr[0].Answer.V++
	if l, e := tally.Spans(l, tr); len(l) != 0 || e != api.ErrOdd {
		t.Error(e)
	}
	if l, e := tally.Spans(api.Log{}, nil); len(l) != 0 || e != api.ErrArg {
		t.Error(e)
	}
}

// number is the number of eight bytes.
func number(b []byte) uint64 {
	v := uint64(0)
	for i, c := range b {
		v |= uint64(c) << (8 * i)
	}
	return v
}

// TestSums: the actors' tallies make All's.
func TestSums(t *testing.T) {
	r := drill.Rand(49)
	for range 60 {
		s := r.Setup()
		f, _ := world.New(s)
		f.Run(r.Picks(s, 1000, 1))
		tr := f.Trace()
		var sum api.Tally
		for i := range f.Actors() {
			x := tally.Actor(tr, i)
			sum = api.Tally{
				Loads: sum.Loads + x.Loads, Stores: sum.Stores + x.Stores, Adds: sum.Adds + x.Adds, Cases: sum.Cases + x.Cases, Failed: sum.Failed + x.Failed,
				Reads: sum.Reads + x.Reads, Writes: sum.Writes + x.Writes, In: sum.In + x.In, Out: sum.Out + x.Out, Idle: sum.Idle + x.Idle,
			}
		}
		if sum != tally.All(tr) {
			t.Fatal(sum, tally.All(tr))
		}
		spans, e := tally.Spans(s.Log, tr)
		whole, _ := audit.Whole(s.Log, tr)
		if e != api.OK || len(spans) != len(whole) {
			t.Fatal(e, spans)
		}
		for i, x := range spans {
			if x.Slot != whole[i] || x.To <= x.From || tr[x.To].Access.Kind != api.Store || tr[x.From].Access.Kind != api.Add || x.To-x.From > tally.Longest(spans) {
				t.Fatal(x)
			}
		}
	}
}
