package clean_test

import (
	"bytes"
	"math"
	"testing"

	"millstream/api"
	"millstream/clean"
	"millstream/drill"
	"millstream/meta"
	"millstream/steps"
)

func log() api.Log { return api.Log{Base: 8, Term: 256, Mtu: 32, Subs: 2} }

const (
	m       = 8 + 3*256
	limitAt = m + 32
	cleanAt = m + 40
)

func TestArguments(t *testing.T) {
	for i, c := range []*clean.Clean{nil, clean.New(api.Log{})} {
		c.Take(api.Answer{})
		if _, ok := c.Next(); ok {
			t.Error(i, "goes on")
		}
		if n, v, e := c.Result(); n != 0 || v != 0 || e != api.ErrArg {
			t.Error(i, n, v, e)
		}
	}
}

// wipes is what wipes so many terms from a count on, and tells it.
func wipes(count uint64, terms int) []api.Access {
	var l []api.Access
	for range terms {
		l = append(l, wipe(int(uint32(count)%3), count+1)...)
		count++
	}
	return l
}

// wipe is what wipes a part, and tells it.
func wipe(part int, cleaned uint64) []api.Access {
	var l []api.Access
	for at := 8 + 256*part; at < 8+256*(part+1); at += 8 {
		l = append(l, api.Access{Kind: api.Write, At: at, N: 8, B: make([]byte, 8)})
	}
	return append(l, steps.Store8(cleanAt, cleaned))
}

func TestAccesses(t *testing.T) {
	start := []api.Access{steps.Load8(m + 48), steps.Load8(m + 56), steps.Load8(cleanAt)}
	far := uint64(1) << 62
	for name, x := range map[string]struct {
		a, b, cleaned, limit uint64
		wiped                []api.Access
		stored               uint64
		terms                int
	}{
		"new":                   {0, 0, 0, 128, nil, 0, 0},
		"the least counts":      {96, 32, 0, 128, nil, 160, 0},
		"below 0 counts as 0":   {96, 1<<64 - 5, 0, 100, nil, 128, 0},
		"one term":              {256, 300, 0, 128, wipe(0, 1), 384, 1},
		"the limit never falls": {256, 300, 0, 385, wipe(0, 1), 0, 1},
		"already cleaned":       {256, 300, 1, 128, nil, 384, 0},
		"round the parts":       {1024, 1300, 2, 128, wipes(2, 2), 1152, 2},
		"three at most":         {256 * 9, 256 * 9, 1, 128, wipes(1, 3), 256 * 6, 3},
		"cleaned below 0":       {256, 256, 1<<64 - 1, 128, nil, 256, 0},
		"cleaned far below 0":   {256, 256, 1 << 63, 128, nil, 384, 0},
		"cleaned too few":       {0, 0, 1<<64 - 2, 5, nil, 0, 0},
		"far":                   {far - 1, far, 1 << 40, 0, wipes(1<<40, 3), far - 1 + 128, 3},
		"without window":        {far, far, 1 << 40, 0, wipes(1<<40, 3), far, 3},
		"least's alone":         {far, far, 1<<40 - 1, 0, wipes(1<<40-1, 3), far, 3},
		"just least's alone":    {far, far, 1<<40 - 3, 0, wipes(1<<40-3, 3), far, 3},
		"the product counts":    {far, far, 1<<40 - 4, 0, wipes(1<<40-4, 3), 256 * (1<<40 + 1), 3},
		"counts go round":       {far, far, 1<<32 - 1, 0, wipes(1<<32-1, 3), 256 * (1<<32 + 4), 3},
		"a limit below 0":       {0, 0, 0, 1 << 63, nil, 128, 0},
		"the greatest position": {math.MaxInt64, math.MaxInt64, 1 << 60, 1, nil, math.MaxInt64, 0},
	} {
		c := clean.New(log())
		want := append(append(start[:3:3], x.wiped...), steps.Load8(limitAt))
		told := []api.Answer{drill.Number(x.a), drill.Number(x.b), drill.Number(x.cleaned)}
		told = append(append(told, make([]api.Answer, len(x.wiped))...), drill.Number(x.limit))
		limit := int64(x.limit)
		if x.stored != 0 {
			want, limit = append(want, steps.Store8(limitAt, x.stored)), int64(x.stored)
		}
		got := drill.Tell(c, told...)
		if n, v, e := c.Result(); x.stored != 0 && (n != x.terms || v != 0 || e != api.ErrBusy) {
			t.Errorf("%s: %d, %d, %d ahead of its end", name, n, v, e)
		}
		c.Take(api.Answer{})
		if !drill.Alike(got, want) {
			t.Errorf("%s: %d accesses, want %d; %+v", name, len(got), len(want), got[len(got)-1])
		}
		if n, v, e := c.Result(); n != x.terms || v != limit || e != api.OK {
			t.Errorf("%s: %d, %d, %d", name, n, v, e)
		}
	}
}

func TestWhateverItIsTold(t *testing.T) {
	r := drill.Rand(27)
	for range 1000 {
		if n := drill.Fuzz(&r, clean.New(log()), 200); n < 4 || n > 3+3*33+2 {
			t.Fatal(n)
		}
	}
}

// TestUnread: the limit never falls, and nothing of a term that somebody hasn't read is wiped.
func TestUnread(t *testing.T) {
	r := drill.Rand(28)
	l := log()
	for range 300 {
		b := drill.Buffer(8 + meta.Size(l))
		drill.Run(b, meta.New(l), 20)
		subs := [2]int64{}
		cleaned := int64(0)
		for range 8 {
			for i := range subs {
				subs[i] += int64(r.Below(20)) * 32
				drill.Poke(b, meta.SubAt(l, i), uint64(subs[i]))
			}
			for at := 8; at < m; at += 8 {
				drill.Poke(b, at, math.MaxUint64)
			}
			limit := int64(drill.Peek(b, limitAt))
			c := clean.New(l)
			drill.Run(b, c, 999)
			terms, now, e := c.Result()
			if e != api.OK || now < limit || now != int64(drill.Peek(b, limitAt)) {
				t.Fatalf("limit %d, then %d", limit, now)
			}
			if cleaned+int64(terms) > min(subs[0], subs[1])/256 {
				t.Fatal("a term that wasn't read was cleaned")
			}
			wiped := [3]bool{}
			for i := range int64(terms) {
				wiped[(cleaned+i)%3] = true
			}
			cleaned += int64(terms)
			for part := range 3 {
				one := b.Bytes()[8+256*part : 8+256*(part+1)]
				if bytes.Contains(one, []byte{0}) != wiped[part] || bytes.Contains(one, []byte{255}) == wiped[part] {
					t.Fatalf("part %d, of %v", part, wiped)
				}
			}
		}
	}
}
