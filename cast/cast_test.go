package cast_test

import (
	"bytes"
	"slices"
	"testing"

	"millstream/api"
	"millstream/cast"
	"millstream/drill"
	"millstream/head"
	"millstream/steps"
)

var small = api.Ring{Base: 8, Size: 64}

const (
	intentAt = 72
	tailAt   = 80
	latestAt = 88
)

func write(at int, b string) api.Access {
	return api.Access{Kind: api.Write, At: at, N: len(b), B: []byte(b)}
}

func TestArguments(t *testing.T) {
	for _, x := range []struct {
		s *cast.Send
		e api.Errno
	}{
		{nil, api.ErrArg}, {cast.New(api.Ring{Size: 1}, 1, nil), api.ErrArg}, {cast.New(small, 0, make([]byte, 9)), api.ErrArg},
		{cast.New(small, 1, make([]byte, 9)), api.ErrLong}, {cast.New(small, 1, make([]byte, 8)), api.ErrBusy},
	} {
		if v, e := x.s.Result(); v != 0 || e != x.e {
			t.Error(v, e, x.e)
		}
		if _, ok := x.s.Next(); ok != (x.e == api.ErrBusy) {
			t.Error("goes on", x.e)
		}
		x.s.Take(api.Answer{})
	}
	var c *cast.Caster
	c.Take(api.Answer{})
	if _, ok := c.Next(); ok || len(c.Places())+len(c.Done()) != 0 {
		t.Error("a nil caster does something")
	}
}

func TestAccesses(t *testing.T) {
	rec := head.Record(12, 3)
	for name, x := range map[string]struct {
		tail uint64
		want []api.Access
		at   int64
	}{
		"at first":         {0, []api.Access{steps.Load8(tailAt), steps.Store8(intentAt, 16), steps.Store8(8, rec), write(16, "abcd"), steps.Store8(latestAt, 0), steps.Store8(tailAt, 16)}, 0},
		"up to the end":    {112, []api.Access{steps.Load8(tailAt), steps.Store8(intentAt, 128), steps.Store8(56, rec), write(64, "abcd"), steps.Store8(latestAt, 112), steps.Store8(tailAt, 128)}, 112},
		"round the end":    {120, []api.Access{steps.Load8(tailAt), steps.Store8(intentAt, 144), steps.Store8(64, head.Record(8, -1)), steps.Store8(8, rec), write(16, "abcd"), steps.Store8(latestAt, 128), steps.Store8(tailAt, 144)}, 128},
		"numbers go round": {1<<64 - 8, []api.Access{steps.Load8(tailAt), steps.Store8(intentAt, 16), steps.Store8(64, head.Record(8, -1)), steps.Store8(8, rec), write(16, "abcd"), steps.Store8(latestAt, 0), steps.Store8(tailAt, 16)}, 0},
	} {
		s := cast.New(small, 3, []byte("abcd"))
		if v, e := s.Result(); v != 0 || e != api.ErrBusy {
			t.Error(name, v, e)
		}
		told := append([]api.Answer{drill.Number(x.tail)}, make([]api.Answer, 9)...)
		if got := drill.Tell(s, told...); !drill.Alike(got, x.want) {
			t.Errorf("%s: %+v", name, got)
		}
		if v, e := s.Result(); v != x.at || e != api.OK {
			t.Error(name, v, e)
		}
	}
}

func TestWhateverItIsTold(t *testing.T) {
	r := drill.Rand(11)
	for range 500 {
		if n := drill.Fuzz(&r, cast.New(small, 1, r.Bytes(r.Below(9))), 20); n < 5 || n > 8 {
			t.Fatal(n)
		}
	}
}

// TestAlone: messages stand one behind the other, the newest over the eldest.
func TestAlone(t *testing.T) {
	r := drill.Rand(12)
	b := drill.Buffer(8 + 64 + 32)
	var l []api.Message
	for i := range 40 {
		l = append(l, api.Message{Type: int32(i + 1), Data: r.Bytes(r.Below(9))})
	}
	l[3].Type, l[5].Data = 0, make([]byte, 9)
	c := cast.All(small, l)
	given := slices.Clone(l)
	for i := range l {
		l[i].Data = slices.Clone(l[i].Data)
	}
	for _, m := range given {
		clear(m.Data)
	}
	clear(given)
	end := int64(0)
	for i := range l {
		for len(c.Done()) <= i && drill.Step(b, c) {
		}
		if e := c.Done()[i]; i == 3 && e != api.ErrArg || i == 5 && e != api.ErrLong || i != 3 && i != 5 && e != api.OK {
			t.Fatal(i, e)
		}
		if c.Done()[i] != api.OK {
			continue
		}
		data := l[i].Data
		need, _ := head.RecordSize(len(data))
		at := end
		if gap := 64 - at%64; int64(need) > gap {
			at += gap
		}
		places := c.Places()
		if last := places[len(places)-1]; last != at {
			t.Fatalf("message %d at %d, want %d", i, last, at)
		}
		place := 8 + int(at%64)
		if drill.Peek(b, place) != head.Record(int32(8+len(data)), int32(i+1)) || !bytes.Equal(b.Bytes()[place+8:place+8+len(data)], data) {
			t.Fatalf("message %d isn't whole", i)
		}
		end = at + int64(need)
		if drill.Peek(b, latestAt) != uint64(at) || drill.Peek(b, tailAt) != uint64(end) || drill.Peek(b, intentAt) != uint64(end) {
			t.Fatalf("the numbers behind message %d", i)
		}
	}
	c.Done()[0], c.Places()[1] = 9, 9999
	if c.Done()[0] != 0 || !slices.IsSorted(c.Places()) {
		t.Error("answers are shared")
	}
	if got := cast.All(api.Ring{}, make([]api.Message, 70)).Done(); len(got) != api.MaxOps || got[0] != api.ErrArg {
		t.Error(got)
	}
}
