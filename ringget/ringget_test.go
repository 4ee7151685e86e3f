package ringget_test

import (
	"bytes"
	"testing"

	"millstream/api"
	"millstream/drill"
	"millstream/head"
	"millstream/ringget"
	"millstream/ringput"
	"millstream/steps"
)

var small = api.Ring{Base: 8, Size: 64}

const headAt = 88

func TestArguments(t *testing.T) {
	for _, g := range []*ringget.Get{nil, ringget.New(api.Ring{Size: 60}, 1), ringget.New(small, 0), ringget.New(small, -1)} {
		g.Take(api.Answer{})
		if _, ok := g.Next(); ok {
			t.Error("goes on")
		}
		if v, e := g.Result(); v != 0 || e != api.ErrArg || len(g.Messages()) != 0 {
			t.Error(v, e)
		}
	}
}

func read(at, n int) api.Access { return api.Access{Kind: api.Read, At: at, N: n} }
func zero(at, n int) api.Access {
	return api.Access{Kind: api.Write, At: at, N: n, B: make([]byte, n)}
}
func record(length, typ int32) api.Answer { return drill.Number(head.Record(length, typ)) }

func TestAccesses(t *testing.T) {
	for name, x := range map[string]struct {
		most int
		told []api.Answer
		want []api.Access
		v    int64
		e    api.Errno
		data []string
	}{
		"empty": {5, []api.Answer{{}, {}}, []api.Access{steps.Load8(headAt), steps.Load8(8)}, 0, api.OK, nil},
		"begun": {5, []api.Answer{{}, record(-16, 1)}, []api.Access{steps.Load8(headAt), steps.Load8(8)}, 0, api.OK, nil},
		"two, of which one was asked for": {
			1, []api.Answer{{}, record(11, 4), {B: []byte("abc")}, {}, {}, {}},
			[]api.Access{steps.Load8(headAt), steps.Load8(8), read(16, 3), zero(8, 8), zero(16, 8), steps.Store8(headAt, 16)}, 16, api.OK, []string{"abc"},
		},
		"padding doesn't count, nor is it read": {
			1, []api.Answer{drill.Number(64 + 40), record(8, -1), record(8, 2), {}, {}, {}},
			[]api.Access{steps.Load8(headAt), steps.Load8(48), steps.Load8(56), zero(48, 8), zero(56, 8), steps.Store8(headAt, 120)}, 16, api.OK, []string{""},
		},
		"up to the ring's end": {
			9, []api.Answer{drill.Number(48), record(16, -1), {}, {}, {}},
			[]api.Access{steps.Load8(headAt), steps.Load8(56), zero(56, 8), zero(64, 8), steps.Store8(headAt, 64)}, 16, api.OK, nil,
		},
		"odd: too short":   {9, []api.Answer{{}, record(7, 1)}, []api.Access{steps.Load8(headAt), steps.Load8(8)}, 0, api.ErrOdd, nil},
		"odd: of one byte": {9, []api.Answer{{}, record(1, 1)}, []api.Access{steps.Load8(headAt), steps.Load8(8)}, 0, api.ErrOdd, nil},
		"odd: too long":    {9, []api.Answer{drill.Number(8), record(57, 1)}, []api.Access{steps.Load8(headAt), steps.Load8(16)}, 0, api.ErrOdd, nil},
		"odd behind a message": {
			9, []api.Answer{{}, record(9, 1), {B: []byte("more than one")}, record(1<<31-1, -1), {}, {}, {}},
			[]api.Access{steps.Load8(headAt), steps.Load8(8), read(16, 1), steps.Load8(24), zero(8, 8), zero(16, 8), steps.Store8(headAt, 16)}, 0, api.ErrOdd, []string{"more than one"},
		},
		"just the ring": {
			9, append([]api.Answer{{}, record(64, -1)}, make([]api.Answer, 9)...),
			[]api.Access{steps.Load8(headAt), steps.Load8(8), zero(8, 8), zero(16, 8), zero(24, 8), zero(32, 8), zero(40, 8), zero(48, 8), zero(56, 8), zero(64, 8), steps.Store8(headAt, 64)}, 64, api.OK, nil,
		},
	} {
		g := ringget.New(small, x.most)
		if got := drill.Tell(g, x.told...); !drill.Alike(got, x.want) {
			t.Errorf("%s: %+v", name, got)
		}
		if v, e := g.Result(); v != x.v || e != x.e {
			t.Errorf("%s: %d, %d", name, v, e)
		}
		l := g.Messages()
		if len(l) != len(x.data) {
			t.Errorf("%s: %v", name, l)
			continue
		}
		for i := range l {
			if string(l[i].Data) != x.data[i] {
				t.Errorf("%s: %q", name, l[i].Data)
			}
		}
	}
}

func TestBusy(t *testing.T) {
	g := ringget.New(small, 2)
	drill.Tell(g, drill.Number(0), record(11, 4), api.Answer{B: []byte("abc")})
	if v, e := g.Result(); v != 0 || e != api.ErrBusy {
		t.Error(v, e)
	}
	l := g.Messages()
	if len(l) != 1 || l[0].Type != 4 {
		t.Fatal(l)
	}
	l[0].Data[0] = 'x'
	if string(g.Messages()[0].Data) != "abc" {
		t.Error("shared")
	}
}

func TestWhateverItIsTold(t *testing.T) {
	r := drill.Rand(5)
	for range 500 {
		if n := drill.Fuzz(&r, ringget.New(small, 1+r.Below(9)), 300); n < 0 || n == 300 {
			t.Fatal(n)
		}
	}
}

// TestPutAndGot: what two put, step by step, comes out whole, in the order of positions, each once.
func TestPutAndGot(t *testing.T) {
	r := drill.Rand(6)
	for range 300 {
		b := drill.Buffer(8 + 64 + ringput.RingTail)
		var puts [2]*ringput.Put
		var data [2][]byte
		sent := map[int64][]byte{}
		var got []api.Message
		g := ringget.New(small, 1+r.Below(4))
		for range 400 {
			k := r.Below(3)
			if k == 2 {
				if !drill.Step(b, g) {
					got = append(got, g.Messages()...)
					g = ringget.New(small, 1+r.Below(4))
				}
				continue
			}
			if puts[k] == nil {
				data[k] = r.Bytes(r.Below(9))
				puts[k] = ringput.New(small, int32(1+k), data[k])
			}
			if !drill.Step(b, puts[k]) {
				if v, e := puts[k].Result(); e == api.OK {
					sent[v] = data[k]
				}
				puts[k] = nil
			}
		}
		for k := range puts {
			if puts[k] != nil {
				drill.Run(b, puts[k], 1000)
				if v, e := puts[k].Result(); e == api.OK {
					sent[v] = data[k]
				}
			}
		}
		drill.Run(b, g, 1000)
		got = append(got, g.Messages()...)
		for range 3 {
			g = ringget.New(small, 9)
			drill.Run(b, g, 1000)
			got = append(got, g.Messages()...)
		}
		if len(got) != len(sent) {
			t.Fatalf("%d put, %d got", len(sent), len(got))
		}
		last := int64(-1)
		for i := range got {
			next := int64(1 << 62)
			for v := range sent {
				if v > last && v < next {
					next = v
				}
			}
			if !bytes.Equal(sent[next], got[i].Data) {
				t.Fatalf("message %d at %d: %v, want %v", i, next, got[i].Data, sent[next])
			}
			last = next
		}
		if !bytes.Equal(b.Bytes()[8:72], make([]byte, 64)) {
			t.Fatal("bytes stay behind")
		}
	}
}
