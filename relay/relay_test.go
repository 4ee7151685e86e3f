package relay_test

import (
	"bytes"
	"math"
	"testing"

	"millstream/api"
	"millstream/cast"
	"millstream/drill"
	"millstream/head"
	"millstream/relay"
	"millstream/sched"
	"millstream/steps"
)

var small = api.Ring{Base: 8, Size: 64}

func TestArguments(t *testing.T) {
	s := api.Ear{Cursor: 1, Next: 2, Lapped: 3}
	for i, x := range []*relay.Relay{nil, relay.New(small, s, 0), relay.New(small, s, -4), relay.New(api.Ring{}, s, 5)} {
		x.Take(api.Answer{V: 1})
		if _, ok := x.Next(); ok {
			t.Error(i, "goes on")
		}
		if i == 0 && x.State() != (api.Ear{}) || i > 0 && x.State() != s {
			t.Error(i, x.State())
		}
		if len(x.Heard()) != 0 || x.Losses() != 0 {
			t.Error(i, "heard something")
		}
	}
	if n := len(drill.Run(drill.Buffer(104), relay.New(small, api.Ear{}, 1000), 1000)); n != api.MaxOps {
		t.Error("hears:", n)
	}
}

func TestAccesses(t *testing.T) {
	n := drill.Number
	x := relay.New(small, api.Ear{}, 3)
	got := drill.Tell(x, n(99), n(32), n(head.Record(9, 5)), api.Answer{B: []byte("a")}, n(32),
		n(99), n(32), n(head.Record(9, 5)), api.Answer{B: []byte("b")})
	tail, intent := steps.Load8(80), steps.Load8(72)
	read := func(at int) api.Access { return api.Access{Kind: api.Read, At: at, N: 1} }
	if !drill.Alike(got, []api.Access{tail, intent, steps.Load8(8), read(16), intent, tail, intent, steps.Load8(24), read(32), intent}) {
		t.Errorf("%+v", got)
	}
	if l := x.Heard(); len(l) != 1 || l[0].At != 0 || x.State() != (api.Ear{Cursor: 0, Next: 16}) {
		t.Error(l, x.State())
	}
	drill.Tell(x, n(80), n(99), n(200), n(136), n(head.Record(16, 6)), api.Answer{B: []byte("c")})
	if x.Losses() != 1 || x.State() != (api.Ear{Cursor: 0, Next: 16, Lapped: 1}) {
		t.Error(x.Losses(), x.State())
	}
	x.Take(n(136))
	l := x.Heard()
	if len(l) != 2 || l[1].At != 136 || l[1].Message.Type != 6 || string(l[1].Message.Data) != "c" || x.State() != (api.Ear{Cursor: 136, Next: 152, Lapped: 2}) {
		t.Error(l, x.State())
	}
	if _, ok := x.Next(); ok {
		t.Error("goes on behind its times")
	}
	l[0].Message.Data[0] = 'x'
	if string(x.Heard()[0].Message.Data) != "a" {
		t.Error("shared")
	}
}

// TestGoesRound: a relay's accesses are those of its listeners, also where positions go round.
func TestGoesRound(t *testing.T) {
	tail, intent := steps.Load8(80), steps.Load8(72)
	low := drill.Number(1 << 63)
	for _, x := range []struct {
		next int64
		told []api.Answer
		want []api.Access
	}{
		{1, []api.Answer{low}, []api.Access{tail, intent}},
		{0, []api.Answer{low}, []api.Access{tail}},
		{math.MaxInt64 - 7, []api.Answer{low, drill.Number(1<<63 + 56)}, []api.Access{tail, intent, steps.Load8(88)}},
		{8, []api.Answer{drill.Number(24), drill.Number(1<<63 + 8)}, []api.Access{tail, intent, steps.Load8(16)}},
	} {
		if got := drill.Tell(relay.New(small, api.Ear{Next: x.next}, 1), x.told...); !drill.Alike(got, x.want) {
			t.Errorf("from %d: %+v", x.next, got)
		}
	}
}

// TestHearsRound: who keeps near hears all messages in order, also where their positions go round.
func TestHearsRound(t *testing.T) {
	from := int64(math.MaxInt64 - 39)
	b := drill.Buffer(104)
	for i := range 3 {
		drill.Poke(b, 72+8*i, uint64(from))
	}
	state := api.Ear{Next: from}
	for i := range 12 {
		c := cast.New(small, int32(i+1), []byte{byte(i)})
		drill.Run(b, c, 99)
		at, _ := c.Result()
		x := relay.New(small, state, 2)
		drill.Run(b, x, 99)
		l := x.Heard()
		if len(l) != 1 || l[0].At != at || l[0].Message.Type != int32(i+1) || !bytes.Equal(l[0].Message.Data, []byte{byte(i)}) || x.Losses() != 0 {
			t.Fatal(i, l, x.Losses())
		}
		state = x.State()
	}
	if state.Next >= 0 || state.Lapped != 0 {
		t.Error(state)
	}
}

func TestWhateverItIsTold(t *testing.T) {
	r := drill.Rand(15)
	for range 300 {
		if n := drill.Fuzz(&r, relay.New(small, api.Ear{}, 1+r.Below(20)), 1000); n < 0 || n == 1000 {
			t.Fatal(n)
		}
	}
}

// TestSteps: what two relays hear was sent, whole, their positions rising; the same at one position.
func TestSteps(t *testing.T) {
	r := drill.Rand(16)
	losses := 0
	for range 300 {
		var l []api.Message
		for i := range 50 {
			l = append(l, api.Message{Type: int32(i + 1), Data: r.Bytes(r.Below(9))})
		}
		c := cast.All(small, l)
		x, y := relay.New(small, api.Ear{}, 64), relay.New(small, api.Ear{}, 64)
		w := sched.New(drill.Buffer(104), []sched.Machine{c, x, y})
		for range 700 {
			w.Pick(api.Pick{Actor: r.Below(5) % 3})
		}
		at := map[int64]int32{}
		for i, p := range c.Places() {
			at[p] = l[i].Type
		}
		for _, z := range []*relay.Relay{x, y} {
			last := int64(-1)
			for _, h := range z.Heard() {
				m := h.Message
				if typ, ok := at[h.At]; ok && typ != m.Type || h.At <= last || !bytes.Equal(m.Data, l[m.Type-1].Data) {
					t.Fatalf("heard %+v behind %d", h, last)
				}
				last, at[h.At] = h.At, m.Type
			}
			losses += z.Losses()
		}
	}
	if losses == 0 {
		t.Error("nothing was lost: the turns are too tame")
	}
}
