package actor_test

import (
	"bytes"
	"math"
	"slices"
	"testing"

	"millstream/actor"
	"millstream/api"
	"millstream/claim"
	"millstream/clean"
	"millstream/drill"
	"millstream/membuf"
	"millstream/meta"
	"millstream/offer"
	"millstream/place"
	"millstream/poll"
	"millstream/sched"
	"millstream/steps"
	"millstream/unstick"
)

func log() api.Log { return api.Log{Term: 256, Mtu: 32, Subs: 2, Initial: 5, Session: 1, Stream: 2} }

func fill(l api.Log) *membuf.Buffer {
	b := drill.Buffer(l.Base + meta.Size(l))
	drill.Run(b, meta.New(l), 20)
	return b
}

func op(kind int, s string) api.Op { return api.Op{Kind: kind, Data: []byte(s)} }

func TestNothingToDo(t *testing.T) {
	var w *actor.Writer
	var r *actor.Reader
	var k *actor.Keeper
	var x *actor.Watcher
	x.Tick(5)
	bad := api.Log{}
	for i, m := range []steps.Machine{w, r, k, x,
		actor.Write(log(), nil, 5), actor.Read(log(), 0, 0, 1), actor.Read(log(), 0, -1, 1), actor.Read(log(), 2, 9, 1), actor.Read(log(), 0, 9, 0), actor.Read(bad, 0, 9, 1),
		actor.Keep(log(), 0), actor.Keep(bad, 9), actor.Watch(log(), 0, 0), actor.Watch(log(), 0, -7), actor.Watch(bad, 0, 9),
		actor.Watch(api.Log{Subs: math.MaxInt}, 0, 9), actor.Write(bad, []api.Op{op(0, "")}, math.MaxInt)} {
		m.Take(api.Answer{V: 1})
		if _, ok := m.Next(); ok {
			t.Error(i, "goes on")
		}
	}
	if _, ok := w.Slot(); ok || len(w.Done()) != 0 || len(r.Messages()) != 0 || r.Error() != api.OK || k.Terms() != 0 || x.Bytes() != 0 {
		t.Error("nil ones do something")
	}
	if _, _, ok := x.Mending(); ok {
		t.Error("a nil watcher mends")
	}
	if e := actor.Read(log(), 2, 9, 1).Error(); e != api.ErrArg {
		t.Error(e)
	}
	if e := actor.Read(log(), 0, math.MaxInt, 0).Error(); e != api.ErrArg {
		t.Error(e)
	}
}

func TestWriter(t *testing.T) {
	b := fill(log())
	ops := []api.Op{op(api.OpOffer, "ab"), op(9, "x"), op(api.OpCommit, "c"), op(api.OpOffer, string(make([]byte, 33))), op(api.OpAbort, ""), op(api.OpOffer, ""), op(api.OpOffer, "")}
	w := actor.Write(log(), ops, 2)
	clear(ops[0].Data)
	if _, ok := w.Slot(); ok || len(w.Done()) != 0 {
		t.Error("did something")
	}
	drill.Run(b, w, 4)
	if s, ok := w.Slot(); !ok || s != (api.Slot{Term: 5, Size: 64}) {
		t.Error(s, ok)
	}
	drill.Run(b, w, 999)
	if _, ok := w.Slot(); ok {
		t.Error("a slot at its end")
	}
	slot := func(at, size int64) api.Slot { return api.Slot{Term: 5, Offset: at, Size: size} }
	want := []api.Sent{
		{End: 64, Tries: 1, Slot: slot(0, 64), Has: true},
		{Error: api.ErrArg, Tries: 1},
		{End: 128, Tries: 1, Slot: slot(64, 64), Has: true},
		{Error: api.ErrLong, Tries: 1},
		{Error: api.ErrFull, Tries: 3},
		{Error: api.ErrFull, Tries: 1},
		{Error: api.ErrFull, Tries: 1},
	}
	done := w.Done()
	done[1].Tries = want[1].Tries
	if !slices.Equal(done, want) {
		t.Errorf("%+v", w.Done())
	}
	w.Done()[0].End = 9
	if w.Done()[0].End != 64 || string(b.Bytes()[32:34]) != "ab" {
		t.Error("shared")
	}
	if n := len(actor.Write(api.Log{}, make([]api.Op, 99), -5).Done()); n != api.MaxOps {
		t.Error(n)
	}
}

// TestRotated: an act that trips is done again, and has its last try's slot.
func TestRotated(t *testing.T) {
	b := fill(log())
	drill.Poke(b, meta.LimitAt(log()), 999)
	var ops []api.Op
	for range 5 {
		ops = append(ops, op(api.OpOffer, "x"))
	}
	w := actor.Write(log(), ops, 1)
	drill.Run(b, w, 999)
	d := w.Done()
	if d[4] != (api.Sent{End: 320, Tries: 2, Slot: api.Slot{Part: 1, Term: 6, Size: 64}, Has: true}) {
		t.Errorf("%+v", d[4])
	}
}

// TestAsWhatTheyDo: the accesses are those of what is done, one behind the other.
func TestAsWhatTheyDo(t *testing.T) {
	l := log()
	run := func(b *membuf.Buffer, all ...steps.Machine) []api.Access {
		var r []api.Access
		for _, m := range all {
			r = append(r, drill.Run(b, m, 9999)...)
		}
		return r
	}
	a, b := fill(l), fill(l)
	ops := []api.Op{op(0, "one"), op(1, "two"), op(2, "three"), op(0, "full")}
	if !drill.Alike(run(a, actor.Write(l, ops, 0)), run(b, offer.New(l, []byte("one")), claim.New(l, []byte("two"), true), claim.New(l, []byte("three"), false), offer.New(l, []byte("full")))) {
		t.Error("a writer's accesses")
	}
	if !drill.Alike(run(a, actor.Read(l, 1, 3, 1)), run(b, poll.New(l, 1, 1), poll.New(l, 1, 1), poll.New(l, 1, 1))) {
		t.Error("a reader's accesses")
	}
	if !drill.Alike(run(a, actor.Keep(l, 2)), run(b, clean.New(l), clean.New(l))) {
		t.Error("a keeper's accesses")
	}
	if n := len(drill.Run(fill(l), actor.Keep(l, math.MaxInt), math.MaxInt)); n != 4*api.MaxTimes {
		t.Error("a keeper cleans", n)
	}
	if n := len(drill.Run(fill(l), actor.Watch(l, 0, math.MaxInt), math.MaxInt)); n != 2*api.MaxTimes {
		t.Error("a watcher looks", n)
	}
	if n := len(drill.Run(fill(l), actor.Read(l, 0, math.MaxInt, 1), math.MaxInt)); n != 2*api.MaxTimes {
		t.Error("a reader polls", n)
	}
}

func TestReader(t *testing.T) {
	l := api.Log{Term: 1024, Mtu: 32, Subs: 1}
	b := fill(l)
	drill.Run(b, actor.Write(l, []api.Op{op(0, string(bytes.Repeat([]byte("x"), 80))), op(2, "gone"), op(1, "kept")}, 0), 999)
	r := actor.Read(l, 0, 9, 1)
	drill.Run(b, r, 12)
	if len(r.Messages()) != 0 {
		t.Error("a message that isn't whole:", r.Messages())
	}
	drill.Run(b, r, 999)
	m := r.Messages()
	if len(m) != 2 || m[0].End != 64+64+64 || len(m[0].Data) != 80 || m[1].End != 192+64+64 || string(m[1].Data) != "kept" || r.Error() != api.OK {
		t.Fatalf("%+v, %d", m, r.Error())
	}
	m[1].Data[0] = 'x'
	if string(r.Messages()[1].Data) != "kept" {
		t.Error("shared")
	}
	drill.Poke(b, meta.SubAt(l, 0), 1<<63)
	r = actor.Read(l, 0, 2, 1)
	drill.Run(b, r, 999)
	if r.Error() != api.ErrOdd {
		t.Error(r.Error())
	}
}

func TestKeeper(t *testing.T) {
	l := log()
	b := fill(l)
	for i := range 2 {
		drill.Poke(b, meta.SubAt(l, i), 512)
	}
	k := actor.Keep(l, 3)
	for range 3 + 31 {
		drill.Step(b, k)
		if k.Terms() != 0 {
			t.Fatal("too soon")
		}
	}
	drill.Run(b, k, 2)
	if k.Terms() != 1 {
		t.Error("of the Clean that goes on:", k.Terms())
	}
	drill.Run(b, k, 999)
	if k.Terms() != 2 {
		t.Error(k.Terms())
	}
}

func TestWatcher(t *testing.T) {
	l := log()
	b := fill(l)
	w := actor.Write(l, []api.Op{op(0, "dead")}, 0)
	drill.Run(b, w, 5)
	x := actor.Watch(l, 10, 99)
	// look looks once: whether it begins to mend then.
	look := func() bool {
		drill.Run(b, x, l.Subs)
		a, _ := x.Next()
		return a.At != meta.SubAt(l, 0)
	}
	x.Tick(7)
	if look() {
		t.Error("mends at its first look")
	}
	x.Tick(17)
	if look() || look() || x.Bytes() != 0 {
		t.Error("mends within its timeout")
	}
	drill.Step(b, x)
	x.Tick(18)
	drill.Step(b, x)
	u := unstick.New(l, 0)
	for range 2 {
		a, _ := x.Next()
		if c, _ := u.Next(); !drill.Same(a, c) {
			t.Errorf("%+v, want %+v", a, c)
		}
		if _, _, ok := x.Mending(); ok {
			t.Error("mends too soon")
		}
		drill.Step(b, u)
		drill.Step(b, x)
	}
	if from, to, ok := x.Mending(); !ok || from != 0 || to != 64 {
		t.Error(from, to, ok)
	}
	drill.Run(b, x, 4)
	if from, to, ok := x.Mending(); ok || from != 0 || to != 0 || x.Bytes() != 64 {
		t.Error("mended:", from, to, x.Bytes())
	}
	// The clock was noted when it began to mend: 18.
	if look() {
		t.Error("mends at once again")
	}
	x.Tick(28)
	if look() {
		t.Error("mends too soon again")
	}
	x.Tick(29)
	if !look() {
		t.Error("doesn't mend again")
	}
	// The clock goes on while it mends: the next look knows it.
	x.Tick(40)
	drill.Run(b, x, 2)
	if !look() {
		t.Error("the clock was forgotten")
	}
	drill.Run(b, x, 2)
	// A position that moved on is noted.
	drill.Poke(b, meta.SubAt(l, 0), 64)
	drill.Poke(b, meta.SubAt(l, 1), 64)
	x.Tick(99)
	if look() || look() {
		t.Error("a position that moved on is mended")
	}
}

// TestLeast: a watcher mends at the least position of those that read.
func TestLeast(t *testing.T) {
	l := log()
	l.Subs = 3
	for _, at := range [][3]uint64{{32, 64, 96}, {96, 32, 64}, {64, 96, 32}} {
		b := fill(l)
		drill.Poke(b, meta.TailAt(l, 0), place.Pack(5, 128))
		for i, v := range at {
			drill.Poke(b, meta.SubAt(l, i), v)
		}
		x := actor.Watch(l, 0, 2)
		x.Tick(1)
		drill.Run(b, x, 3)
		x.Tick(2)
		drill.Run(b, x, 5)
		if from, to, ok := x.Mending(); from != 32 || to != 128 || !ok {
			t.Error(at, from, to, ok)
		}
	}
	y := actor.Watch(l, 0, 2)
	drill.Tell(y, drill.Number(5), drill.Number(1<<63), drill.Number(5))
	y.Tick(1)
	drill.Tell(y, drill.Number(5), drill.Number(1<<63), drill.Number(5))
	if _, ok := y.Next(); ok || y.Bytes() != 0 {
		t.Error("where no position can be nothing is mended")
	}
}

func TestWhateverTheyAreTold(t *testing.T) {
	r := drill.Rand(31)
	for range 300 {
		for _, m := range []steps.Machine{
			actor.Write(log(), []api.Op{{}, {Kind: 1}, {Kind: 2, Data: make([]byte, 30)}, {Kind: 0, Data: make([]byte, 30)}}, 3),
			actor.Read(log(), 0, 5, 3), actor.Keep(log(), 3), actor.Watch(log(), -1, 9),
		} {
			if drill.Fuzz(&r, m, 500) < 0 {
				t.Fatal("an access changed")
			}
		}
	}
}

// TestTurns: however all take turns, readers read what was appended or committed, whole, each once, in the order of positions, up to the first that isn't at its end.
func TestTurns(t *testing.T) {
	r := drill.Rand(32)
	for range 150 {
		l := log()
		l.Term, l.Initial = 512, math.MaxInt32
		var m []sched.Machine
		var writers []*actor.Writer
		var ops [3][]api.Op
		for i := range ops {
			for range 8 {
				ops[i] = append(ops[i], api.Op{Kind: r.Below(3), Data: r.Bytes(r.Below(65))})
			}
			writers = append(writers, actor.Write(l, ops[i], 1<<30))
			m = append(m, writers[i])
		}
		readers := []*actor.Reader{actor.Read(l, 0, 1000, 2), actor.Read(l, 1, 1000, 9)}
		m = append(m, readers[0], readers[1], actor.Keep(l, 5000))
		w := sched.New(fill(l), m)
		for range r.Below(9000) {
			w.Pick(api.Pick{Actor: r.Below(6)})
		}
		var want []api.Got
		for i, x := range writers {
			for j, d := range x.Done() {
				if d.Error == api.OK && ops[i][j].Kind != api.OpAbort {
					want = append(want, api.Got{End: d.End, Data: ops[i][j].Data})
				}
			}
		}
		slices.SortFunc(want, func(a, b api.Got) int { return int(a.End - b.End) })
		first := int64(math.MaxInt64)
		for _, x := range writers {
			if s, ok := x.Slot(); ok {
				first = min(first, int64(place.Count(s.Term, l.Initial))*512+s.Offset)
			}
		}
		for _, x := range readers {
			got := x.Messages()
			if x.Error() != api.OK || len(got) > len(want) {
				t.Fatal(x.Error(), len(got), len(want))
			}
			for i, g := range got {
				if g.End != want[i].End || !bytes.Equal(g.Data, want[i].Data) || g.End > first {
					t.Fatalf("message %d: %+v, want %+v", i, g, want[i])
				}
			}
		}
	}
}
