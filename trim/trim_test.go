package trim_test

import (
	"slices"
	"testing"

	"millstream/api"
	"millstream/drill"
	"millstream/parse"
	"millstream/trim"
)

const text = `
log 0 256 32 1 0 0 0
writer
offer hello
writer
tries 1
polls 3 1
cleans 1
watch 5 3
`

func script(t *testing.T, picks string) api.Script {
	t.Helper()
	x, n, e := parse.Parse(text + picks)
	if e != api.OK {
		t.Fatal(n, e)
	}
	return x
}

func TestIdle(t *testing.T) {
	x := script(t, "step 1\nstep 0\nstep 9\nkill 9\ntick 0\ntick 1\ntick -1\nkill 1\nkill 1\nstep 1\nkill -1\nstep 0 9\nstep 0 2")
	x.Picks = append(x.Picks, api.Pick{Kind: 7}, api.Pick{Kind: api.PickTick, N: 1<<40 + 1}, api.Pick{Actor: 2})
	want := []int{0, 2, 3, 4, 6, 8, 9, 10, 20, 21, 22, 23}
	idle, e := trim.Idle(x)
	if e != api.OK || !slices.Equal(idle, want) {
		t.Error(idle, e)
	}
	before := slices.Clone(x.Picks)
	y, e := trim.Trim(x)
	if e != api.OK || len(y.Picks) != len(x.Picks)-len(want) || !slices.Equal(x.Picks, before) {
		t.Error(y.Picks, e)
	}
	if y.Picks[0] != (api.Pick{Actor: 0}) || y.Picks[1] != (api.Pick{Kind: api.PickTick, N: 1}) || y.Picks[2] != (api.Pick{Kind: api.PickKill, Actor: 1}) {
		t.Error(y.Picks)
	}
	y.Setup.Writers[0][0].Data[0] = 'x'
	if string(x.Setup.Writers[0][0].Data) != "hello" {
		t.Error("shared")
	}
	if y, _ := trim.Trim(script(t, "tick 0\ntick 0")); len(y.Picks) != 0 {
		t.Error(y.Picks)
	}
}

func TestRefused(t *testing.T) {
	good := script(t, "step 0")
	for _, x := range []struct {
		change func(s *api.Setup)
		e      api.Errno
	}{{func(s *api.Setup) { s.Log.Subs = 0 }, api.ErrArg}, {func(s *api.Setup) { s.Writers = make([][]api.Op, 9) }, api.ErrMany}} {
		bad := script(t, "step 0")
		x.change(&bad.Setup)
		idle, e := trim.Idle(bad)
		y, f := trim.Trim(bad)
		a, g := trim.Alike(good, bad)
		b, h := trim.Alike(bad, good)
		if e != x.e || f != e || g != e || h != e || len(idle)+len(y.Picks)+len(y.Setup.Writers) != 0 || y.Setup.Log != (api.Log{}) || a || b {
			t.Error(e, f, g, h)
		}
		if _, e := trim.Cut(bad, 1); e != api.OK {
			t.Error(e)
		}
	}
}

func TestCut(t *testing.T) {
	x := script(t, "step 0 5\ntick 3")
	for n := range 7 {
		y, e := trim.Cut(x, n)
		if e != api.OK || !slices.Equal(y.Picks, x.Picks[:n]) || y.Setup.Log != x.Setup.Log || len(y.Setup.Writers) != 2 {
			t.Error(n, y, e)
		}
		_ = append(y.Picks, api.Pick{Kind: 9})
		y.Setup.Writers[0][0].Data[0] = 'x'
		if string(x.Setup.Writers[0][0].Data) != "hello" {
			t.Error("shared")
		}
		if x.Picks[5].Kind != api.PickTick {
			t.Error("shared")
		}
	}
	for _, n := range []int{-1, 7, -1 << 63, 1<<63 - 1} {
		if y, e := trim.Cut(x, n); e != api.ErrArg || len(y.Picks) != 0 || y.Setup.Log != (api.Log{}) {
			t.Error(n, e)
		}
	}
}

func TestAlike(t *testing.T) {
	all := "step 0 10\nstep 2 8\n"
	base := script(t, all)
	change := func(f func(x *api.Script)) api.Script {
		x := script(t, all)
		f(&x)
		return x
	}
	for name, x := range map[string]struct {
		b    api.Script
		want bool
	}{
		"itself":              {base, true},
		"idle picks":          {script(t, "tick 0\n"+all+"step 77"), true},
		"a clock":             {script(t, "tick 9\n"+all), true},
		"a kill":              {script(t, all+"kill 3"), false},
		"other bytes":         {script(t, all+"step 2 9\nstep 3 9"), false},
		"one step less":       {script(t, "step 0 9\nstep 2 8"), false},
		"one that reads less": {script(t, "step 0 10\nstep 2 2"), false},
		"more writers":        {change(func(x *api.Script) { x.Setup.Writers = append(x.Setup.Writers, nil) }), false},
		"more acts to come":   {change(func(x *api.Script) { x.Setup.Writers[0] = append(x.Setup.Writers[0], api.Op{}) }), true},
		"another act at once": {change(func(x *api.Script) { x.Setup.Writers[1] = []api.Op{{Kind: 9}} }), false},
		"more that read":      {change(func(x *api.Script) { x.Setup.Log.Subs = 2 }), false},
		"other tries":         {change(func(x *api.Script) { x.Setup.Tries = 7 }), true},
		"another message":     {change(func(x *api.Script) { x.Setup.Writers[0][0].Data[0]++ }), false},
	} {
		a, e := trim.Alike(base, x.b)
		b, f := trim.Alike(x.b, base)
		if a != x.want || b != x.want || e != api.OK || f != api.OK {
			t.Errorf("%s: %v, %v, %d, %d", name, a, b, e, f)
		}
	}
}

// TestTrimmed: what is trimmed is trim, and plays alike.
func TestTrimmed(t *testing.T) {
	r := drill.Rand(50)
	let := 0
	for range 100 {
		x := api.Script{Setup: r.Setup()}
		x.Setup.Looks, x.Setup.Cleans, x.Setup.Polls = r.Below(40), r.Below(20), r.Below(20)
		x.Picks = r.Picks(x.Setup, 600, 2)
		for range 30 {
			x.Picks[r.Below(600)] = api.Pick{Kind: r.Below(5) - 1, Actor: r.Below(12) - 1, N: int64(r.Below(3) - 1)}
		}
		y, e := trim.Trim(x)
		if e != api.OK {
			t.Fatal(e)
		}
		let += len(x.Picks) - len(y.Picks)
		if idle, _ := trim.Idle(y); len(idle) != 0 {
			t.Fatal("isn't trim:", idle)
		}
		if alike, _ := trim.Alike(x, y); !alike {
			t.Fatal("plays otherwise")
		}
	}
	if let < 1000 {
		t.Error(let)
	}
}
