package audit_test

import (
	"bytes"
	"slices"
	"testing"

	"millstream/api"
	"millstream/audit"
	"millstream/drill"
	"millstream/head"
	"millstream/meta"
	"millstream/place"
	"millstream/steps"
	"millstream/world"
)

func log() api.Log { return api.Log{Base: 8, Term: 256, Mtu: 32, Subs: 1, Initial: 5} }

const m = 8 + 3*256

// trace is what these accesses do, one behind the other, by an actor.
func trace(t *testing.T, actor int, l ...api.Access) []api.Event {
	t.Helper()
	b := drill.Buffer(8 + meta.Size(log()))
	drill.Run(b, meta.New(log()), 20)
	var r []api.Event
	for _, a := range l {
		x, e := b.Do(a)
		if e != api.OK {
			t.Fatal(a, e)
		}
		r = append(r, api.Event{Pick: api.Pick{Actor: actor}, Access: a, Answer: x})
	}
	return r
}

func TestReplay(t *testing.T) {
	b := drill.Buffer(8 + meta.Size(log()))
	drill.Run(b, meta.New(log()), 20)
	if got, e := audit.Replay(log(), nil); e != api.OK || !bytes.Equal(got, b.Bytes()) {
		t.Error(e)
	}
	write := api.Access{Kind: api.Write, At: 9, N: 2, B: []byte("ab")}
	good := trace(t, 3, write, api.Access{Kind: api.Read, At: 8, N: 4}, steps.Add8(m, 64), steps.Cas4(m+24, 0, 1))
	good = append(good, api.Event{Pick: api.Pick{Kind: api.PickTick, N: 5}}, api.Event{Pick: api.Pick{Kind: api.PickKill}}, api.Event{}, api.Event{Answer: api.Answer{V: 9}})
	b.Do(write)
	b.Do(steps.Add8(m, 64))
	b.Do(steps.Cas4(m+24, 0, 1))
	if got, e := audit.Replay(log(), good); e != api.OK || !bytes.Equal(got, b.Bytes()) {
		t.Error(e)
	}
	for i, change := range []func(x []api.Event){
		func(x []api.Event) { x[0].Access.At = -1 },
		func(x []api.Event) { x[0].Access.Kind = 9 },
		func(x []api.Event) { x[0].Answer.V = 1 },
		func(x []api.Event) { x[1].Answer.B = []byte{0, 'a', 'b', 1} },
		func(x []api.Event) { x[1].Answer.B = x[1].Answer.B[:3] },
		func(x []api.Event) { x[2].Answer.V++ },
		func(x []api.Event) { x[3].Answer.Done = false },
		func(x []api.Event) { x[4].Access = steps.Load8(4) },
		func(x []api.Event) { x[5].Access, x[5].Answer.V = steps.Load8(m), 0 },
	} {
		bad := slices.Clone(good)
		change(bad)
		got, e := audit.Replay(log(), bad)
		slots, f := audit.Slots(log(), bad)
		whole, g := audit.Whole(log(), bad)
		n, h := audit.Mended(log(), bad, 0)
		if e != api.ErrOdd || f != e || g != e || h != e || len(got)+len(slots)+len(whole)+int(n) != 0 {
			t.Error(i, e, f, g, h)
		}
	}
	_, e := audit.Replay(api.Log{}, good)
	_, f := audit.Slots(api.Log{}, good)
	_, g := audit.Whole(api.Log{}, nil)
	_, h := audit.Mended(api.Log{}, nil, 0)
	if e != api.ErrArg || f != e || g != e || h != e {
		t.Error(e, f, g, h)
	}
}

func TestSlots(t *testing.T) {
	l := trace(t, 3, steps.Load8(m), steps.Add8(m, 64), steps.Add8(m+24, 1), steps.Add8(m, 32), steps.Add8(m+16, 96), steps.Add8(m+8, 1<<63))
	l[4].Pick = api.Pick{Kind: api.PickTick, Actor: 7}
	got, e := audit.Slots(log(), l)
	want := []api.Claimed{
		{Actor: 3, Event: 1, Slot: api.Slot{Part: 0, Term: 5, Offset: 0, Size: 64}},
		{Actor: 3, Event: 3, Slot: api.Slot{Part: 0, Term: 5, Offset: 64, Size: 32}},
		{Actor: 7, Event: 4, Slot: api.Slot{Part: 2, Term: 4, Offset: 0, Size: 96}},
		{Actor: 3, Event: 5, Slot: api.Slot{Part: 1, Term: 3, Offset: 0, Size: -1 << 63}},
	}
	if e != api.OK || !slices.Equal(got, want) {
		t.Errorf("%+v, %d", got, e)
	}
}

func TestWhole(t *testing.T) {
	add, end := steps.Add8(m, 128), func(offset int, v uint32) api.Access { return steps.Store4(8+offset, v) }
	for name, x := range map[string]struct {
		l    []api.Access
		want []int
	}{
		"one frame":            {[]api.Access{add, end(0, 128)}, []int{0}},
		"its size counts":      {[]api.Access{add, end(0, 97)}, []int{0}},
		"two frames":           {[]api.Access{add, end(0, 33), end(64, 64)}, []int{0}},
		"not far enough":       {[]api.Access{add, end(0, 96)}, nil},
		"too far":              {[]api.Access{add, end(0, 129)}, nil},
		"ahead of its claim":   {[]api.Access{end(0, 128), add}, nil},
		"a length below 0":     {[]api.Access{add, end(0, 1<<31)}, nil},
		"a length of 0":        {[]api.Access{add, end(0, 0)}, nil},
		"another place":        {[]api.Access{add, end(4, 128)}, nil},
		"eight bytes":          {[]api.Access{add, steps.Store8(8, 128)}, nil},
		"in between":           {[]api.Access{add, end(0, 64), end(32, 7), end(0, 64), end(64, 64)}, []int{0}},
		"of no bytes":          {[]api.Access{steps.Add8(m, 0), end(0, 32)}, nil},
		"up to the term's end": {[]api.Access{steps.Add8(m, 192), steps.Add8(m, 64), end(192, 64)}, []int{1}},
		"past the term's end":  {[]api.Access{steps.Add8(m, 192), steps.Add8(m, 96), end(192, 64), end(256, 32), end(0, 192)}, []int{0}},
		"a claim below 0":      {[]api.Access{steps.Add8(m, 1<<64-64), end(0, 32)}, nil},
		"two at once":          {[]api.Access{add, steps.Add8(m, 32), end(128, 32), end(0, 128)}, []int{0, 1}},
		"in another part":      {[]api.Access{steps.Add8(m+8, 32), end(256, 32)}, []int{0}},
	} {
		got, e := audit.Whole(log(), trace(t, 2, x.l...))
		if e != api.OK || !slices.Equal(got, x.want) {
			t.Errorf("%s: %v, %d", name, got, e)
		}
	}
	l := trace(t, 2, add, end(0, 128))
	l[1].Pick.Actor = 3
	if got, e := audit.Whole(log(), l); len(got) != 0 || e != api.OK {
		t.Error("by another one:", got, e)
	}
}

func TestMended(t *testing.T) {
	first := func(length int32, typ uint16) uint64 {
		return head.Words(api.Frame{Length: length, Type: typ})[0]
	}
	l := trace(t, 4,
		steps.Store8(8, first(64, 0)), steps.Store8(8+32, first(33, 0)), steps.Store8(8+64, first(32, 1)), steps.Store8(8+96, first(-96, 0)),
		steps.Store8(16, first(9, 0)), steps.Store4(8, 32), steps.Store8(m, first(16, 0)), steps.Store8(0, first(16, 0)),
		steps.Store8(m-32, first(5, 0)), steps.Store8(8+128, 0))
	if n, e := audit.Mended(log(), l, 4); n != 64+33+5 || e != api.OK {
		t.Error(n, e)
	}
	if n, e := audit.Mended(log(), l, 3); n != 0 || e != api.OK {
		t.Error(n, e)
	}
}

// TestFabrics: a fabric's trace is a play; its slots are what its writers claimed; no two share a byte.
func TestFabrics(t *testing.T) {
	r := drill.Rand(34)
	for range 120 {
		s := r.Setup()
		f, _ := world.New(s)
		var claimed []api.Claimed
		picks := r.Picks(s, 1200, r.Below(2))
		last := make([]api.Slot, len(s.Writers))
		for i, p := range picks {
			f.Pick(p)
			if w := p.Actor; p.Kind == api.PickStep && w < len(s.Writers) {
				slot, ok := f.Slot(w)
				if ok && slot != last[w] {
					last[w] = slot
					claimed = append(claimed, api.Claimed{Actor: w, Slot: slot, Event: i})
				}
			}
		}
		tr := f.Trace()
		b, e := audit.Replay(s.Log, tr)
		if e != api.OK || !bytes.Equal(b, f.Bytes()) {
			t.Fatal("its trace is no play:", e)
		}
		slots, _ := audit.Slots(s.Log, tr)
		if len(slots) != len(claimed) {
			t.Fatalf("%d slots, %d were claimed", len(slots), len(claimed))
		}
		type span struct{ from, to int64 }
		var spans []span
		for i, c := range slots {
			if c.Actor != claimed[i].Actor || c.Slot != claimed[i].Slot {
				t.Fatalf("%+v, %+v was claimed", c, claimed[i])
			}
			at := int64(place.Count(c.Slot.Term, s.Log.Initial))*int64(s.Log.Term) + c.Slot.Offset
			end := (at - c.Slot.Offset) + int64(s.Log.Term)
			if from, to := at, min(at+c.Slot.Size, end); from < to {
				spans = append(spans, span{from, to})
			}
		}
		slices.SortFunc(spans, func(a, b span) int { return int(a.from - b.from) })
		for i := 1; i < len(spans); i++ {
			if spans[i].from < spans[i-1].to {
				t.Fatal("two slots share a byte")
			}
		}
		whole, _ := audit.Whole(s.Log, tr)
		for i := range s.Writers {
			for _, d := range f.Done(i) {
				at := slices.IndexFunc(slots, func(c api.Claimed) bool { return c.Actor == i && c.Slot == d.Slot })
				if d.Error == api.OK && !slices.Contains(whole, at) {
					t.Fatalf("%+v isn't whole", d)
				}
			}
		}
		if n, _ := audit.Mended(s.Log, tr, f.Actors()-1); n != f.Mended() && f.Ended(f.Actors()-1) {
			t.Fatal(n, f.Mended())
		}
	}
}
