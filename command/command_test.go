package command_test

import (
	"bytes"
	"math"
	"testing"

	"millstream/api"
	"millstream/command"
	"millstream/drill"
)

func TestCheck(t *testing.T) {
	for i, x := range []struct {
		c  api.Command
		ok bool
	}{
		{api.Command{}, false},
		{api.Command{Kind: api.AddPub, Stream: -1, Session: math.MinInt32, Correlation: math.MaxInt64, Client: math.MaxInt64}, true},
		{api.Command{Kind: api.AddSub, Client: 1}, true},
		{api.Command{Kind: api.Remove, Stream: 5, Client: 1}, true},
		{api.Command{Kind: api.Done, Stream: 5, Client: 1}, true},
		{api.Command{Kind: api.AddPub, Client: 0}, false},
		{api.Command{Kind: api.AddPub, Client: -1}, false},
		{api.Command{Kind: api.AddPub, Client: 1, Correlation: -1}, false},
		{api.Command{Kind: api.AddPub, Client: 1, Error: 1}, false},
		{api.Command{Kind: api.AddSub, Client: 1, Error: -1}, false},
		{api.Command{Kind: api.Remove, Client: 1, Error: 1}, false},
		{api.Command{Kind: api.Done, Client: 1, Error: 1}, false},
		{api.Command{Kind: api.Alive, Client: 1}, true},
		{api.Command{Kind: api.Alive}, false},
		{api.Command{Kind: api.Alive, Client: 1, Stream: 1}, false},
		{api.Command{Kind: api.Alive, Client: 1, Session: 1}, false},
		{api.Command{Kind: api.Alive, Client: 1, Correlation: 1}, false},
		{api.Command{Kind: api.Alive, Client: 1, Error: 1}, false},
		{api.Command{Kind: api.Failed, Client: 1, Error: 1}, true},
		{api.Command{Kind: api.Failed, Client: 1, Error: 255}, true},
		{api.Command{Kind: api.Failed, Client: 1, Error: 0}, false},
		{api.Command{Kind: api.Failed, Client: 1, Error: 256}, false},
		{api.Command{Kind: api.Failed, Client: 1, Error: -1}, false},
		{api.Command{Kind: 7, Client: 1}, false},
		{api.Command{Kind: -1, Client: 1}, false},
	} {
		e := command.Check(x.c)
		b, f := command.Bytes(x.c)
		m, g := command.Message(x.c)
		if x.ok && (e != api.OK || f != e || g != e || len(b) != command.Size || m.Type != x.c.Kind || !bytes.Equal(m.Data, b)) {
			t.Errorf("%d: %d, %d, %d", i, e, f, g)
		}
		if !x.ok && (e != api.ErrForm || f != e || g != e || len(b) != 0 || m.Type != 0 || len(m.Data) != 0) {
			t.Errorf("%d: %d, %d, %d", i, e, f, g)
		}
		if got, e := command.Parse(b); x.ok && (got != x.c || e != api.OK) {
			t.Errorf("%d: %+v", i, got)
		}
	}
}

func TestBytes(t *testing.T) {
	c := api.Command{Kind: 6, Stream: 0x14131211, Session: -2, Error: 255, Correlation: 0x2827262524232221, Client: 0x3837363534333231}
	want := []byte{6, 0, 0, 0, 0x11, 0x12, 0x13, 0x14, 0xfe, 0xff, 0xff, 0xff, 255, 0, 0, 0,
		0x21, 0x22, 0x23, 0x24, 0x25, 0x26, 0x27, 0x28, 0x31, 0x32, 0x33, 0x34, 0x35, 0x36, 0x37, 0x38}
	if b, e := command.Bytes(c); e != api.OK || !bytes.Equal(b, want) {
		t.Errorf("%x, %d", b, e)
	}
	if got, e := command.Parse(want); e != api.OK || got != c {
		t.Errorf("%+v, %d", got, e)
	}
	for i, b := range [][]byte{nil, want[:31], append(want[:32:32], 0), make([]byte, 32)} {
		if got, e := command.Parse(b); e != api.ErrForm || got != (api.Command{}) {
			t.Error(i, got, e)
		}
	}
}

// TestParsed: bytes that are parsed are those of what was parsed.
func TestParsed(t *testing.T) {
	r := drill.Rand(42)
	parsed := 0
	for range 5000 {
		b := make([]byte, 32)
		b[0], b[24] = byte(r.Below(8)), byte(r.Below(2))
		for range r.Below(3) {
			b[r.Below(32)] = byte(r.Next())
		}
		c, e := command.Parse(b)
		if e != api.OK {
			continue
		}
		parsed++
		if again, e := command.Bytes(c); e != api.OK || !bytes.Equal(again, b) {
			t.Fatalf("%x tells %x", b, again)
		}
		a := command.Answer(c, api.Errno(r.Below(300)-20))
		if asked := c.Kind <= api.Alive; asked && command.Check(a) != api.OK {
			t.Fatalf("%+v is answered %+v", c, a)
		}
	}
	if parsed < 500 {
		t.Error(parsed)
	}
}

func TestAnswer(t *testing.T) {
	c := api.Command{Kind: api.Remove, Stream: 1, Session: 2, Error: 77, Correlation: 3, Client: 4}
	done := api.Command{Kind: api.Done, Stream: 1, Session: 2, Correlation: 3, Client: 4}
	failed := done
	failed.Kind = api.Failed
	if a := command.Answer(c, api.OK); a != done {
		t.Errorf("%+v", a)
	}
	for e, want := range map[api.Errno]int32{1: 1, 13: 13, 254: 254, 255: 255, 256: 255, -1: 255, math.MaxInt: 255, math.MinInt: 255} {
		failed.Error = want
		if a := command.Answer(c, e); a != failed {
			t.Errorf("%d: %+v", e, a)
		}
	}
}

func TestIsAnswer(t *testing.T) {
	c := api.Command{Kind: api.AddPub, Stream: 1, Session: 2, Correlation: 3, Client: 4}
	for i, x := range []struct {
		a    api.Command
		want bool
	}{
		{api.Command{Kind: api.Done, Correlation: 3, Client: 4}, true},
		{api.Command{Kind: api.Failed, Correlation: 3, Client: 4, Error: 1}, true},
		{api.Command{Kind: api.AddPub, Correlation: 3, Client: 4}, false},
		{api.Command{Kind: api.Done, Correlation: 4, Client: 4}, false},
		{api.Command{Kind: api.Done, Correlation: 3, Client: 3}, false},
		{c, false},
	} {
		if command.IsAnswer(x.a, c) != x.want {
			t.Error(i)
		}
	}
}
