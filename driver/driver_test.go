package driver_test

import (
	"math"
	"slices"
	"testing"

	"millstream/api"
	"millstream/cast"
	"millstream/command"
	"millstream/drill"
	"millstream/driver"
	"millstream/membuf"
	"millstream/ringget"
	"millstream/ringput"
	"millstream/steps"
)

func pub(client int64, stream, session int32) api.Command {
	return api.Command{Kind: api.AddPub, Client: client, Stream: stream, Session: session, Correlation: 9}
}

func with(kind int32, c api.Command) api.Command {
	c.Kind = kind
	return c
}

func TestDo(t *testing.T) {
	b := driver.NewBook()
	if len(b.Entries())+len(b.Clients()) != 0 {
		t.Error("a new book has something")
	}
	alive := api.Command{Kind: api.Alive, Client: 5}
	for i, x := range []struct {
		c                api.Command
		e                api.Errno
		entries, clients int
	}{
		{with(api.Remove, pub(3, 1, 1)), api.ErrArg, 0, 1},
		{pub(0, 1, 1), api.ErrForm, 0, 1},
		{with(api.Done, pub(7, 1, 1)), api.ErrForm, 0, 1},
		{api.Command{Kind: api.Failed, Client: 7, Error: 3}, api.ErrForm, 0, 1},
		{api.Command{Kind: 9, Client: 7}, api.ErrForm, 0, 1},
		{alive, api.OK, 0, 2},
		{pub(3, 1, 2), api.OK, 1, 2},
		{pub(3, 1, 2), api.OK, 1, 2},
		{with(api.AddSub, pub(3, 1, 2)), api.OK, 2, 2},
		{with(api.AddSub, pub(3, 1, 1)), api.OK, 3, 2},
		{pub(4, -1, 0), api.OK, 4, 3},
		{pub(3, -5, 9), api.OK, 5, 3},
		{with(api.Remove, pub(4, 1, 2)), api.ErrArg, 5, 3},
	} {
		if e := b.Do(x.c, 10); e != x.e || len(b.Entries()) != x.entries || len(b.Clients()) != x.clients {
			t.Errorf("%d: %d, %v, %v", i, e, b.Entries(), b.Clients())
		}
	}
	want := []api.Entry{{Client: 3, Stream: -5, Session: 9, Pub: true}, {Client: 3, Stream: 1, Session: 1}, {Client: 3, Stream: 1, Session: 2, Pub: true}, {Client: 3, Stream: 1, Session: 2}, {Client: 4, Stream: -1, Pub: true}}
	if !slices.Equal(b.Entries(), want) || !slices.Equal(b.Clients(), []int64{3, 4, 5}) {
		t.Errorf("%+v, %v", b.Entries(), b.Clients())
	}
	if e := b.Do(with(api.Remove, pub(3, 1, 2)), 10); e != api.OK || len(b.Entries()) != 3 {
		t.Error("removed:", e, b.Entries())
	}
}

func TestMany(t *testing.T) {
	b := driver.NewBook()
	for i := range int32(32) {
		b.Do(pub(1, i, 0), 0)
	}
	if e := b.Do(pub(2, 0, 0), 0); e != api.ErrMany || len(b.Entries()) != 32 || len(b.Clients()) != 2 {
		t.Error(e)
	}
	if e := b.Do(with(api.AddSub, pub(1, 0, 0)), 0); e != api.ErrMany {
		t.Error(e)
	}
	if e := b.Do(pub(1, 0, 0), 0); e != api.OK {
		t.Error("one that is there:", e)
	}
}

func TestLate(t *testing.T) {
	b := driver.NewBook()
	for i := range int64(4) {
		b.Do(pub(9-i, 1, 1), 10*i)
	}
	if l := b.Late(30, 30); len(l) != 0 {
		t.Error(l)
	}
	b.Do(api.Command{Kind: api.Alive, Client: 9}, 40)
	if l := b.Late(45, 24); !slices.Equal(l, []int64{7, 8}) {
		t.Error(l)
	}
	if !slices.Equal(b.Clients(), []int64{6, 9}) || len(b.Entries()) != 2 || b.Entries()[0].Client != 6 {
		t.Error(b.Clients(), b.Entries())
	}
	if l := b.Late(45, 24); len(l) != 0 {
		t.Error("once more:", l)
	}
	b.Do(pub(1, 1, 1), math.MinInt64)
	if l := b.Late(math.MaxInt64, math.MaxInt64); !slices.Equal(l, []int64{1}) {
		t.Error("far apart:", l)
	}
	var none *driver.Book
	if e := none.Do(pub(1, 1, 1), 0); e != api.ErrArg || len(none.Late(9, 1))+len(none.Entries())+len(none.Clients()) != 0 {
		t.Error(e)
	}
}

var (
	in  = api.Ring{Base: 0, Size: 512}
	out = api.Ring{Base: 544, Size: 512}
)

func put(b *membuf.Buffer, c api.Command) {
	data, _ := command.Bytes(c)
	drill.Run(b, ringput.New(in, 1, data), 99)
}

// TestRounds: a driver does what a Get and a Send of the answer do, one behind the other.
func TestRounds(t *testing.T) {
	a, b := drill.Buffer(1088), drill.Buffer(1088)
	asked := []api.Command{pub(1, 2, 3), with(api.Remove, pub(1, 9, 9)), {Kind: api.Alive, Client: 4}}
	for _, x := range []*membuf.Buffer{a, b} {
		for _, c := range asked {
			put(x, c)
		}
		drill.Run(x, ringput.New(in, 1, []byte("no command")), 99)
	}
	d := driver.New(in, out, 10, 5)
	d.Tick(7)
	got := drill.Run(a, d, 9999)
	var want []api.Access
	for i := range 5 {
		want = append(want, drill.Run(b, ringget.New(in, 1), 999)...)
		if i < 2 {
			m, _ := command.Message(command.Answer(asked[i], []api.Errno{api.OK, api.ErrArg}[i]))
			want = append(want, drill.Run(b, cast.New(out, m.Type, m.Data), 99)...)
		}
	}
	if !drill.Alike(got, want) {
		t.Errorf("%d accesses, want %d", len(got), len(want))
	}
	if d.Odd() != 1 {
		t.Error("odd:", d.Odd())
	}
	if l := d.Book().Entries(); len(l) != 1 || l[0] != (api.Entry{Client: 1, Stream: 2, Session: 3, Pub: true}) || !slices.Equal(d.Book().Clients(), []int64{1, 4}) {
		t.Error(l, d.Book().Clients())
	}
	d.Tick(17)
	if len(d.Book().Clients()) != 2 {
		t.Error("late too soon")
	}
	d.Tick(18)
	if len(d.Book().Clients())+len(d.Book().Entries()) != 0 {
		t.Error("who is late stays")
	}
}

// TestOdd: what isn't a client's command is counted, and does nothing to the book.
func TestOdd(t *testing.T) {
	b := drill.Buffer(1088)
	put(b, with(api.Done, pub(5, 5, 5)))
	put(b, api.Command{Kind: api.Failed, Client: 6, Error: 1})
	drill.Run(b, ringput.New(in, 1, nil), 99)
	put(b, pub(7, 1, 1))
	d := driver.New(in, out, 10, 9)
	drill.Run(b, d, 999)
	if d.Odd() != 3 || !slices.Equal(d.Book().Clients(), []int64{7}) || len(d.Book().Entries()) != 1 {
		t.Error(d.Odd(), d.Book().Clients())
	}
}

func TestArguments(t *testing.T) {
	var none *driver.Driver
	none.Tick(5)
	bad := api.Ring{Size: 1}
	for i, d := range []*driver.Driver{none, driver.New(in, out, 0, 0), driver.New(in, out, 0, -1), driver.New(bad, out, 0, math.MaxInt), driver.New(bad, bad, math.MinInt64, 3)} {
		d.Take(api.Answer{V: 1})
		if _, ok := d.Next(); ok || d.Odd() != 0 || len(d.Book().Entries()) != 0 {
			t.Error(i, "does something")
		}
	}
	if e := none.Book().Do(pub(1, 1, 1), 0); e != api.ErrArg {
		t.Error(e)
	}
	b := drill.Buffer(1088)
	if n := len(drill.Run(b, driver.New(in, out, 0, math.MaxInt), math.MaxInt)); n != 2*api.MaxTimes {
		t.Error("rounds:", n)
	}
	put(b, pub(1, 2, 3))
	d := driver.New(in, bad, 0, 1)
	drill.Run(b, d, 999)
	if len(d.Book().Entries()) != 1 {
		t.Error("without a broadcast nothing is done")
	}
}

func TestWhateverItIsTold(t *testing.T) {
	r := drill.Rand(43)
	for range 300 {
		d := driver.New(in, out, 5, 3)
		if n := drill.Fuzz(&r, d, 2000); n < 0 || n == 2000 {
			t.Fatal(n)
		}
	}
	// A command out of a ring that tells nothing else.
	d := driver.New(in, out, 5, 1)
	data, _ := command.Bytes(pub(1, 2, 3))
	drill.Tell(d, api.Answer{}, drill.Number(1<<32|40), api.Answer{B: data}, api.Answer{}, api.Answer{}, api.Answer{})
	drill.Tell(d, make([]api.Answer, 6)...)
	if a, ok := d.Next(); !ok || !drill.Same(a, steps.Load8(544+512+8)) {
		t.Errorf("%+v", a)
	}
}
