package ringfix_test

import (
	"testing"

	"millstream/api"
	"millstream/drill"
	"millstream/head"
	"millstream/ringfix"
	"millstream/ringget"
	"millstream/ringput"
	"millstream/steps"
)

var small = api.Ring{Base: 8, Size: 64}

const (
	tailAt = 72
	headAt = 88
)

func TestArguments(t *testing.T) {
	for _, f := range []*ringfix.Fix{nil, ringfix.New(api.Ring{Base: 1, Size: 64})} {
		f.Take(api.Answer{})
		if _, ok := f.Next(); ok {
			t.Error("goes on")
		}
		if v, e := f.Result(); v != 0 || e != api.ErrArg {
			t.Error(v, e)
		}
	}
	f := ringfix.New(small)
	if v, e := f.Result(); v != 0 || e != api.ErrBusy {
		t.Error(v, e)
	}
}

func TestAccesses(t *testing.T) {
	start := []api.Access{steps.Load8(headAt), steps.Load8(tailAt)}
	n := drill.Number
	for name, x := range map[string]struct {
		told []api.Answer
		want []api.Access
		v    int
	}{
		"empty":                        {[]api.Answer{n(24), n(24)}, nil, 0},
		"a whole one":                  {[]api.Answer{n(0), n(24), n(head.Record(8, 1))}, []api.Access{steps.Load8(8)}, 0},
		"one of one byte":              {[]api.Answer{n(0), n(24), n(head.Record(1, 1))}, []api.Access{steps.Load8(8)}, 0},
		"one that was begun":           {[]api.Answer{n(64), n(80), n(head.Record(-11, 1)), {}}, []api.Access{steps.Load8(8), steps.Store8(8, head.Record(11, -1))}, 11},
		"one up to the end":            {[]api.Answer{n(48), n(64), n(head.Record(-16, 1)), {}}, []api.Access{steps.Load8(56), steps.Store8(56, head.Record(16, -1))}, 16},
		"one that is too long":         {[]api.Answer{n(48), n(64), n(head.Record(-17, 1))}, []api.Access{steps.Load8(56)}, 0},
		"the least length":             {[]api.Answer{n(0), n(64), n(head.Record(-1<<31, 1))}, []api.Access{steps.Load8(8)}, 0},
		"nothing behind it":            {[]api.Answer{n(0), n(24), n(7 << 32), n(0), n(1 << 32)}, []api.Access{steps.Load8(8), steps.Load4(16), steps.Load4(24)}, 0},
		"nothing up to the ring's end": {[]api.Answer{n(48), n(72), n(0), n(0)}, []api.Access{steps.Load8(56), steps.Load4(64)}, 0},
		"just one place":               {[]api.Answer{n(0), n(8), n(0)}, []api.Access{steps.Load8(8)}, 0},
		"something behind it": {
			[]api.Answer{n(0), n(32), n(0), n(0), n(5), n(0), n(0), {}},
			[]api.Access{steps.Load8(8), steps.Load4(16), steps.Load4(24), steps.Load4(16), steps.Load4(8), steps.Store8(8, head.Record(16, -1))}, 16,
		},
		"somebody goes on, behind": {
			[]api.Answer{n(0), n(32), n(0), n(0), n(1 << 31), n(1)},
			[]api.Access{steps.Load8(8), steps.Load4(16), steps.Load4(24), steps.Load4(16)}, 0,
		},
		"somebody goes on, in front": {
			[]api.Answer{n(0), n(32), n(0), n(9), n(1)},
			[]api.Access{steps.Load8(8), steps.Load4(16), steps.Load4(8)}, 0,
		},
	} {
		f := ringfix.New(small)
		if got := drill.Tell(f, x.told...); !drill.Alike(got, append(start[:2:2], x.want...)) {
			t.Errorf("%s: %+v", name, got)
		}
		if v, e := f.Result(); v != x.v || e != api.OK {
			t.Errorf("%s: %d, %d", name, v, e)
		}
	}
}

func TestWhateverItIsTold(t *testing.T) {
	r := drill.Rand(7)
	for range 1000 {
		if n := drill.Fuzz(&r, ringfix.New(small), 100); n < 0 || n == 100 {
			t.Fatal(n)
		}
	}
}

// TestStalled: producers that stop for ever anywhere don't stop what was put whole behind them.
func TestStalled(t *testing.T) {
	r := drill.Rand(8)
	for range 500 {
		b := drill.Buffer(8 + 64 + ringput.RingTail)
		var sent []byte
		for i := range 3 {
			p := ringput.New(small, 1, []byte{byte(i)})
			for range 2 + r.Below(6) {
				drill.Step(b, p)
			}
			if _, e := p.Result(); e == api.OK {
				sent = append(sent, byte(i))
			}
		}
		last := ringput.New(small, 1, []byte{9})
		drill.Run(b, last, 50)
		var got []byte
		for range 12 {
			f := ringfix.New(small)
			drill.Run(b, f, 100)
			g := ringget.New(small, 8)
			drill.Run(b, g, 100)
			for _, m := range g.Messages() {
				got = append(got, m.Data...)
			}
		}
		if _, e := last.Result(); e != api.OK {
			t.Fatal("no room:", e)
		}
		if string(got) != string(append(sent, 9)) {
			t.Fatalf("put %v and 9, got %v", sent, got)
		}
		if drill.Peek(b, headAt) != drill.Peek(b, tailAt) {
			t.Fatal("the ring stands still")
		}
	}
}
