package parse_test

import (
	"bytes"
	"math"
	"slices"
	"strconv"
	"strings"
	"testing"

	"millstream/api"
	"millstream/drill"
	"millstream/parse"
)

func TestWords(t *testing.T) {
	for s, want := range map[string][]string{
		"": nil, "   ": nil, "#a b": nil, "a": {"a"}, " a  bc d ": {"a", "bc", "d"}, "a#b c": {"a"}, "a # b": {"a"}, "ä\x00 \xff": {"ä\x00", "\xff"},
	} {
		if l := parse.Words(s); !slices.Equal(l, want) {
			t.Errorf("%q: %q", s, l)
		}
	}
}

func TestNumber(t *testing.T) {
	low, high := int64(math.MinInt64), int64(math.MaxInt64)
	for i, x := range []struct {
		s         string
		low, high int64
		n         int64
		ok        bool
	}{
		{"0", low, high, 0, true}, {"7", low, high, 7, true}, {"-7", low, high, -7, true},
		{"999999999999999999", low, high, 999999999999999999, true}, {"-999999999999999999", low, high, -999999999999999999, true},
		{"1000000000000000000", low, high, 0, false}, {"-0", low, high, 0, false}, {"00", low, high, 0, false}, {"01", low, high, 0, false}, {"-01", low, high, 0, false},
		{"", low, high, 0, false}, {"-", low, high, 0, false}, {"--1", low, high, 0, false}, {"+1", low, high, 0, false}, {"1a", low, high, 0, false}, {" 1", low, high, 0, false}, {"1.", low, high, 0, false}, {"١", low, high, 0, false},
		{"5", 5, 5, 5, true}, {"5", 6, 9, 0, false}, {"5", 0, 4, 0, false}, {"5", 9, 0, 0, false}, {"-5", -5, -5, -5, true}, {"-6", -5, 5, 0, false},
	} {
		if n, ok := parse.Number(x.s, x.low, x.high); n != x.n || ok != x.ok {
			t.Errorf("%d: %q: %d, %v", i, x.s, n, ok)
		}
	}
}

func same(a, b api.Script) bool {
	sameOp := func(a, b api.Op) bool { return a.Kind == b.Kind && bytes.Equal(a.Data, b.Data) }
	sameOps := func(a, b []api.Op) bool { return slices.EqualFunc(a, b, sameOp) }
	x, y := a.Setup, b.Setup
	return x.Log == y.Log && x.Tries == y.Tries && x.Polls == y.Polls && x.Most == y.Most && x.Cleans == y.Cleans && x.Timeout == y.Timeout && x.Looks == y.Looks &&
		slices.EqualFunc(x.Writers, y.Writers, sameOps) && slices.Equal(a.Picks, b.Picks)
}

func step(i int) api.Pick { return api.Pick{Actor: i} }

func TestParse(t *testing.T) {
	text := `
# a scenario
log 1 2 3 4 5 6 7   # overwritten
log -8 -1099511627776 1099511627776 0 -2147483648 2147483647 -1

writer
offer a\b
commit -
writer
  abort --   # two signs
fill 1 300
fill 0 0
tries 1
tries -2
polls 3 4
cleans 5
watch 6 7
step 1
step -1 2
step 3 0
kill 4
tick -5
writer`
	data := make([]byte, 300)
	for i := range data {
		data[i] = byte(i % 251)
	}
	want := api.Script{
		Setup: api.Setup{
			Log:     api.Log{Base: -8, Term: -1 << 40, Mtu: 1 << 40, Initial: math.MinInt32, Session: math.MaxInt32, Stream: -1},
			Writers: [][]api.Op{{{Data: []byte(`a\b`)}, {Kind: 1}}, {{Kind: 2, Data: []byte("--")}, {Kind: 1, Data: data}, {}}, nil},
			Tries:   -2, Polls: 3, Most: 4, Cleans: 5, Timeout: 6, Looks: 7,
		},
		Picks: []api.Pick{step(1), step(-1), step(-1), {Kind: api.PickKill, Actor: 4}, {Kind: api.PickTick, N: -5}},
	}
	x, n, e := parse.Parse(text)
	if n != 0 || e != api.OK || !same(x, want) {
		t.Errorf("%+v, %d, %d", x, n, e)
	}
	if x, n, e := parse.Parse(""); n != 0 || e != api.OK || !same(x, api.Script{}) {
		t.Error(x, n, e)
	}
}

func TestWrong(t *testing.T) {
	acts := "writer\n" + strings.Repeat("offer x\n", 64)
	for s, want := range map[string]struct {
		n int
		e api.Errno
	}{
		"bad": {1, api.ErrForm}, "\n#\n bad x": {3, api.ErrForm}, "Log 0 0 0 0 0 0 0": {1, api.ErrForm},
		"log 0 0 0 0 0 0": {1, api.ErrForm}, "log 0 0 0 0 0 0 0 0": {1, api.ErrForm}, "log 0 0 0 0 2147483648 0 0": {1, api.ErrForm}, "log 0 0 0 0 0 0 -2147483649": {1, api.ErrForm},
		"log 1099511627777 0 0 0 0 0 0": {1, api.ErrForm}, "log x 0 0 0 0 0 0": {1, api.ErrForm},
		"writer 1": {1, api.ErrForm}, "offer x": {1, api.ErrForm}, "fill 0 1": {1, api.ErrForm}, "writer\noffer": {2, api.ErrForm}, "writer\ncommit a b": {2, api.ErrForm}, "writer\nabort #": {2, api.ErrForm},
		"writer\nfill 3 1": {2, api.ErrForm}, "writer\nfill -1 1": {2, api.ErrForm}, "writer\nfill 0 2049": {2, api.ErrForm}, "writer\nfill 0 -1": {2, api.ErrForm}, "writer\nfill 0": {2, api.ErrForm}, "writer\nfill 2 2048": {0, api.OK},
		"tries": {1, api.ErrForm}, "tries 1 2": {1, api.ErrForm}, "tries 1099511627777": {1, api.ErrForm}, "polls 1": {1, api.ErrForm}, "polls 1 2 3": {1, api.ErrForm}, "cleans a": {1, api.ErrForm}, "watch 1": {1, api.ErrForm},
		"step": {1, api.ErrForm}, "step 1 2 3": {1, api.ErrForm}, "step 1 1001": {1, api.ErrForm}, "step 1 -1": {1, api.ErrForm}, "step 1 1000": {0, api.OK},
		"kill": {1, api.ErrForm}, "kill 1 2": {1, api.ErrForm}, "tick": {1, api.ErrForm}, "tick 1099511627777": {1, api.ErrForm}, "tick 1099511627776": {0, api.OK},
		strings.Repeat("writer\n", 8): {0, api.OK}, strings.Repeat("writer\n", 9): {9, api.ErrMany}, strings.Repeat("writer\n", 8) + "writer x": {9, api.ErrForm},
		acts: {0, api.OK}, acts + "commit y": {66, api.ErrMany}, acts + "fill 0 1": {66, api.ErrMany}, acts + "fill 9 1": {66, api.ErrForm}, acts + "writer\noffer x": {0, api.OK},
		strings.Repeat("step 0 1000\n", 4) + "step 1 96": {0, api.OK}, strings.Repeat("step 0 1000\n", 4) + "step 1 97": {5, api.ErrMany},
		strings.Repeat("tick 0\n", 4096): {0, api.OK}, strings.Repeat("kill 0\n", 4097) + "bad": {4097, api.ErrMany},
	} {
		x, n, e := parse.Parse(s)
		if n != want.n || e != want.e || e != api.OK && !same(x, api.Script{}) {
			t.Errorf("%.60q: %d, %d, want %d, %d", s, n, e, want.n, want.e)
		}
	}
}

// TestPrinted: what is parsed is printed so that it is parsed as it was.
func TestPrinted(t *testing.T) {
	r := drill.Rand(38)
	number := func() string { return strconv.FormatInt(int64(r.Next())>>r.Below(64)%(1<<40+1), 10) }
	small := func() string { return strconv.Itoa(int(int32(r.Next())) >> r.Below(32)) }
	signs := "ab-\\\"0'~\x01\x7f\xff"
	text := func() string {
		s := ""
		for range 1 + r.Below(5) {
			k := r.Below(len(signs))
			s += signs[k : k+1]
		}
		return s
	}
	for range 500 {
		var l []string
		for range r.Below(40) {
			switch r.Below(11) {
			case 0:
				l = append(l, "log "+number()+" "+number()+" "+number()+" "+number()+" "+small()+" "+small()+" "+small())
			case 1:
				l = append(l, "writer")
			case 2:
				l = append(l, []string{"offer ", "commit ", "abort "}[r.Below(3)]+text())
			case 3:
				l = append(l, "fill "+strconv.Itoa(r.Below(3))+" "+strconv.Itoa(r.Below(2049)))
			case 4:
				l = append(l, "tries "+number(), "cleans "+number())
			case 5:
				l = append(l, "polls "+number()+" "+number())
			case 6:
				l = append(l, "watch "+number()+" "+number())
			case 7, 8:
				l = append(l, "step "+strconv.Itoa(r.Below(3))+" "+strconv.Itoa(r.Below(1001)/(1+r.Below(900))))
			case 9:
				l = append(l, "kill "+number())
			case 10:
				l = append(l, "tick "+number())
			}
		}
		s := strings.Join(l, "\n")
		x, _, e := parse.Parse(s)
		if e != api.OK {
			continue
		}
		p := parse.Print(x)
		if y, n, e := parse.Parse(p); e != api.OK || !same(x, y) {
			t.Fatalf("%q is printed %q: %d, %d", s, p, n, e)
		}
	}
	many := api.Script{Picks: make([]api.Pick, 4096)}
	if p := parse.Print(many); strings.Count(p, "step") != 5 {
		t.Error("steps in a row:", p)
	}
	// What no text tells is printed somehow.
	parse.Print(api.Script{Setup: api.Setup{Writers: [][]api.Op{{{Kind: 7, Data: []byte(" #\n")}}}}, Picks: []api.Pick{{Kind: 9}, {Kind: -1, N: math.MinInt64}}})
}
