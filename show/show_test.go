package show_test

import (
	"math"
	"slices"
	"testing"

	"millstream/api"
	"millstream/show"
)

func TestBytes(t *testing.T) {
	for b, want := range map[string]string{
		"": "-", "-": "-", "a b": `a\20b`, "!~": "!~", "\\": `\5c`, "\x00\x1f \x7f\xff": `\00\1f\20\7f\ff`, "ä": `\c3\a4`, "\n#": `\0a#`,
	} {
		if got := show.Bytes([]byte(b)); got != want {
			t.Errorf("%q: %s, want %s", b, got, want)
		}
	}
	if show.Bytes(nil) != "-" {
		t.Error("no bytes")
	}
}

func same(t *testing.T, got []string, want ...string) {
	t.Helper()
	if !slices.Equal(got, want) {
		t.Errorf("%q, want %q", got, want)
	}
}

func TestReport(t *testing.T) {
	same(t, show.Report(api.Report{}), "mended 0", "error 0", "steps 0")
	same(t, show.Report(api.Report{
		Done:     [][]api.Sent{nil, {{End: 64, Tries: 1}, {Error: api.ErrFull, Tries: 12, End: 5}}, {{End: math.MinInt64}}},
		Messages: [][]api.Got{{{End: 64, Data: []byte("hi there")}, {End: 96}}, {{End: -1, Data: []byte("x")}}},
		Dead:     []bool{false, true, false, true},
		Mended:   96, Error: api.ErrOdd, Steps: 1234,
	}),
		"writer 1 0 ok 64 tries 1", "writer 1 1 error 5 tries 12", "writer 2 0 ok -9223372036854775808 tries 0",
		`reader 0 64 hi\20there`, "reader 0 96 -", "reader 1 -1 x", "dead 1", "dead 3", "mended 96", "error 13", "steps 1234")
}

func TestEvent(t *testing.T) {
	of := func(actor int, a api.Access, x api.Answer) api.Event {
		return api.Event{Pick: api.Pick{Actor: actor, N: 77}, Access: a, Answer: x}
	}
	big := uint64(math.MaxUint64)
	for i, x := range []struct {
		e    api.Event
		want string
	}{
		{of(0, api.Access{Kind: api.Load, At: 96, N: 8, V: 3}, api.Answer{V: big}), "0 load 96 8 = 18446744073709551615"},
		{of(12, api.Access{Kind: api.Store, At: 8, N: 4, V: 7, W: 9}, api.Answer{}), "12 store 8 4 7"},
		{of(1, api.Access{Kind: api.Add, At: 8, N: 8, V: 64}, api.Answer{V: 32}), "1 add 8 64 = 32"},
		{of(1, api.Access{Kind: api.Cas, At: 8, N: 4, V: 1, W: 2}, api.Answer{V: 1, Done: true}), "1 cas 8 4 1 2 yes"},
		{of(1, api.Access{Kind: api.Cas, At: 8, N: 8, V: big, W: 2}, api.Answer{V: 1}), "1 cas 8 8 18446744073709551615 2 no"},
		{of(1, api.Access{Kind: api.Read, At: 8, N: 3}, api.Answer{B: []byte("a c")}), `1 read 8 = a\20c`},
		{of(1, api.Access{Kind: api.Read, At: 8}, api.Answer{}), "1 read 8 = -"},
		{of(1, api.Access{Kind: api.Write, At: 8, N: 2, B: []byte{0, 'x'}}, api.Answer{}), `1 write 8 \00x`},
		{of(-1, api.Access{}, api.Answer{}), "-1 idle"},
		{of(3, api.Access{Kind: 7, At: 5}, api.Answer{}), "3 idle"},
		{api.Event{Pick: api.Pick{Kind: api.PickKill, Actor: 5, N: 9}}, "kill 5"},
		{api.Event{Pick: api.Pick{Kind: api.PickTick, Actor: 5, N: 9}}, "tick 9"},
	} {
		if got := show.Event(x.e); got != x.want {
			t.Errorf("%d: %q, want %q", i, got, x.want)
		}
	}
}

func TestSeen(t *testing.T) {
	for state, word := range map[int]string{api.Begun: "begun", api.Ready: "ready", api.Padded: "padding", 0: "odd", 4: "odd"} {
		x := api.Seen{Part: 2, Offset: 64, State: state, Frame: api.Frame{Length: -40, Version: 9, Type: 65535, Flags: 255, Offset: 8, Session: -3, Stream: 4, Term: math.MinInt32, Reserved: 1}}
		if got := show.Seen(x); got != "2 64 "+word+" -40 65535 255 -3 4 -2147483648" {
			t.Error(got)
		}
	}
}

func TestView(t *testing.T) {
	same(t, show.View(api.View{}), "active 0", "tail 0 0 0", "tail 1 0 0", "tail 2 0 0", "limit 0", "cleaned 0")
	same(t, show.View(api.View{Active: math.MaxUint32, Tails: [3]uint64{5<<32 | 64, math.MaxUint64, 1 << 63}, Limit: -5, Cleaned: 7, Subs: []int64{32, -1}}),
		"active 4294967295", "tail 0 5 64", "tail 1 -1 4294967295", "tail 2 -2147483648 0", "limit -5", "cleaned 7", "sub 0 32", "sub 1 -1")
}

func TestGauges(t *testing.T) {
	same(t, show.Gauges(nil))
	same(t, show.Gauges([]api.Gauge{{Name: "made", Value: 2}, {Name: "a-b", Value: -3}}), "made 2", "a-b -3")
}
