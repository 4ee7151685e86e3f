package console_test

import (
	"math"
	"slices"
	"strings"
	"testing"

	"millstream/api"
	"millstream/audit"
	"millstream/bound"
	"millstream/console"
	"millstream/drill"
	"millstream/inspect"
	"millstream/parse"
	"millstream/show"
	"millstream/world"
)

const scenario = `
log 8 256 32 1 5 -1 2
writer
offer hello
commit -
writer
abort x   # given up
tries 9
polls 20 4
cleans 4
watch 50 8
step 0 10
step 1 3
step 2 5
kill 1
tick 3
step 9
`

func same(t *testing.T, got []string, want ...string) {
	t.Helper()
	if !slices.Equal(got, want) {
		t.Errorf("%q, want %q", got, want)
	}
}

func TestRefused(t *testing.T) {
	for text, want := range map[string]string{
		"bad": "line 1 error 8", "\n\nstep": "line 3 error 8", strings.Repeat("writer\n", 9): "line 9 error 12", "": "error 1", "log 0 256 32 9 0 0 0": "error 1", "log 0 256 32 1 0 0 0\nwatch -1 0": "error 1",
	} {
		p, l := console.New(text)
		if p != nil {
			t.Errorf("%q plays", text)
		}
		same(t, l, want)
		same(t, console.Run(text), want)
	}
}

func TestPlay(t *testing.T) {
	p, l := console.New(scenario)
	if p == nil || len(l) != 0 {
		t.Fatal(l)
	}
	same(t, p.Lines(), "writer 0 0 ok 64 tries 1", "dead 1", "mended 0", "error 0", "steps 18")
	same(t, p.Frames(), "0 0 ready 37 1 192 -1 2 5")
	same(t, p.Numbers(), "active 0", "tail 0 5 64", "tail 1 3 0", "tail 2 4 0", "limit 128", "cleaned 0", "sub 0 0")
	same(t, p.Check(), "slots 1", "whole 1", "play")
	same(t, p.Trace(0, 2), "0 load 808 8 = 128", "0 load 800 4 = 0")
	same(t, p.Trace(18, 9), "kill 1", "tick 3")
	same(t, p.Trace(19, math.MaxInt), "tick 3")
	same(t, p.Trace(20, 5))
	same(t, p.Trace(math.MaxInt, math.MaxInt))
	same(t, p.Trace(-1, 5))
	same(t, p.Trace(0, -1))
	same(t, p.Trace(3, 0))
	r := p.Report()
	if len(r.Done) != 2 || len(r.Messages) != 1 || len(r.Dead) != 5 || !r.Dead[1] || r.Steps != 18 {
		t.Errorf("%+v", r)
	}
	same(t, console.Run(scenario), slices.Concat(p.Lines(), p.Numbers(), p.Check())...)
	settled := p.Settle()
	if len(settled) != 1 || !strings.HasPrefix(settled[0], "settled ") {
		t.Error(settled)
	}
	same(t, p.Settle(), "settled 0")
	same(t, p.Lines()[:4], "writer 0 0 ok 64 tries 1", "writer 0 1 ok 96 tries 1", "reader 0 64 hello", "reader 0 96 -")
	idle, _ := console.New("log 0 256 32 1 0 0 0\npolls 1 1\nstep 0 9\nstep 1 2\ntick 1")
	same(t, idle.Lines(), "mended 0", "error 0", "steps 3")
	q, _ := console.New(strings.Replace(scenario, "polls 20 4", "polls 1 1", 1))
	same(t, q.Settle(), "left 6846")
}

// TestPutTogether: what is told is what the layers below tell of the same play.
func TestPutTogether(t *testing.T) {
	r := drill.Rand(39)
	for range 60 {
		x := api.Script{Setup: r.Setup()}
		x.Setup.Timeout = 5
		for _, ops := range x.Setup.Writers {
			for j := range ops {
				for k := range ops[j].Data {
					ops[j].Data[k] = 'a' + ops[j].Data[k]%26
				}
			}
		}
		x.Picks = r.Picks(x.Setup, 800, 2)
		for i, p := range x.Picks {
			if p.Kind != api.PickTick {
				x.Picks[i].N = 0
			}
		}
		text := parse.Print(x)
		p, _ := console.New(text)
		f, _ := world.New(x.Setup)
		f.Run(x.Picks)
		v, _ := inspect.Numbers(f.Bytes(), x.Setup.Log)
		same(t, p.Numbers(), show.View(v)...)
		seen, _ := inspect.Frames(f.Bytes(), x.Setup.Log)
		if l := p.Frames(); len(l) != len(seen) || len(l) > 0 && l[0] != show.Seen(seen[0]) {
			t.Fatal(l, seen)
		}
		slots, _ := audit.Slots(x.Setup.Log, f.Trace())
		if c := p.Check(); c[0] != "slots "+show.Report(api.Report{Steps: len(slots)})[2][6:] || c[2] != "play" {
			t.Fatal(c)
		}
		if p.Report().Mended != f.Mended() || len(p.Trace(0, math.MaxInt)) != len(f.Trace()) {
			t.Fatal("another play")
		}
		same(t, console.Run(text), console.Run(text)...)
		n, done := bound.Settle(f, x.Setup)
		if l := p.Settle(); done != strings.HasPrefix(l[0], "settled") || !strings.HasSuffix(l[0], show.Report(api.Report{Steps: n})[2][5:]) {
			t.Fatal(l, n, done)
		}
	}
}

func TestNil(t *testing.T) {
	var p *console.Play
	if len(p.Lines())+len(p.Frames())+len(p.Trace(0, 9))+len(p.Numbers())+len(p.Check())+len(p.Settle()) != 0 {
		t.Error("a nil play has lines")
	}
	if r := p.Report(); len(r.Done)+len(r.Messages)+len(r.Dead)+r.Steps != 0 {
		t.Errorf("%+v", r)
	}
}
