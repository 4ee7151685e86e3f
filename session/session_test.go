package session_test

import (
	"bytes"
	"math"
	"slices"
	"testing"

	"millstream/api"
	"millstream/drill"
	"millstream/head"
	"millstream/session"
	"millstream/word"
	"millstream/world"
)

func setup() api.Setup {
	return api.Setup{Log: api.Log{Term: 256, Mtu: 32, Subs: 1, Session: 77, Stream: 88}, Writers: [][]api.Op{{{Data: []byte("x")}, {Data: []byte("y")}}}, Tries: 9, Polls: 99, Most: 2, Cleans: 9, Timeout: 99, Looks: 99}
}

func registry(t *testing.T) *session.Registry {
	t.Helper()
	r, e := session.New(setup())
	if e != api.OK || r == nil {
		t.Fatal(e)
	}
	return r
}

func key(stream, s int32) api.Key { return api.Key{Stream: stream, Session: s} }

// counted asks whether the gauges tell these numbers, in order of names; what was never counted may be left out.
func counted(t *testing.T, r *session.Registry, made, opened, refused int64) {
	t.Helper()
	want := []api.Gauge{{Name: "made", Value: made}, {Name: "opened", Value: opened}, {Name: "refused", Value: refused}}
	never := func(g api.Gauge) bool { return g.Value == 0 }
	if !slices.Equal(slices.DeleteFunc(r.Gauges(), never), slices.DeleteFunc(want, never)) {
		t.Error(r.Gauges())
	}
}

func TestNew(t *testing.T) {
	s := setup()
	s.Log.Mtu = 1
	if r, e := session.New(s); r != nil || e != api.ErrArg {
		t.Error(e)
	}
	s = setup()
	s.Writers = make([][]api.Op, 9)
	if r, e := session.New(s); r != nil || e != api.ErrMany {
		t.Error(e)
	}
	r := registry(t)
	if len(r.Keys())+r.Steps(key(0, 0)) != 0 || r.Close(key(0, 0)) {
		t.Error("a new registry has something")
	}
}

func TestOpen(t *testing.T) {
	s := setup()
	r, _ := session.New(s)
	s.Writers[0][0].Data[0] = 'z'
	f, e := r.Open(key(3, 4))
	if e != api.OK || f == nil {
		t.Fatal(e)
	}
	again, _ := r.Open(key(3, 4))
	other, _ := r.Open(key(4, 3))
	if again != f || other == f {
		t.Error("a fabric isn't its key's")
	}
	f.Rounds(40)
	b := f.Bytes()
	h := head.Frame([4]uint64{1: word.Number(b[8:]), 2: word.Number(b[16:])})
	if h.Stream != 3 || h.Session != 4 || string(f.Messages(0)[0].Data) != "x" {
		t.Errorf("%+v", h)
	}
	counted(t, r, 2, 3, 0)
	if n := r.Steps(key(3, 4)); n != len(f.Trace()) || n == 0 || r.Steps(key(4, 3)) != 0 || r.Steps(key(9, 9)) != 0 {
		t.Error(n)
	}
	if !r.Close(key(3, 4)) || r.Close(key(3, 4)) || r.Steps(key(3, 4)) != 0 {
		t.Error("closed")
	}
	if now, _ := r.Open(key(3, 4)); now == f || len(now.Trace()) != 0 {
		t.Error("opened again it isn't made anew")
	}
}

func TestManyAndKeys(t *testing.T) {
	r := registry(t)
	for i := range 4 {
		for j := range 4 {
			r.Open(key(int32(i*3)%4-1, int32(j-2)*math.MaxInt32))
		}
	}
	if f, e := r.Open(key(9, 9)); f != nil || e != api.ErrMany {
		t.Error(e)
	}
	if _, e := r.Open(key(0, 0)); e != api.OK {
		t.Error(e)
	}
	counted(t, r, 16, 17, 1)
	keys := r.Keys()
	if len(keys) != 16 {
		t.Fatal(keys)
	}
	for i := 1; i < 16; i++ {
		a, b := keys[i-1], keys[i]
		if a.Stream > b.Stream || a.Stream == b.Stream && a.Session >= b.Session {
			t.Error(a, b)
		}
	}
	keys[0].Stream = 99
	if r.Keys()[0].Stream != -1 {
		t.Error("shared")
	}
	r.Close(key(0, 0))
	if _, e := r.Open(key(9, 9)); e != api.OK {
		t.Error(e)
	}
}

// TestApart: what is done to one fabric changes no other one.
func TestApart(t *testing.T) {
	r := registry(t)
	a, _ := r.Open(key(1, 1))
	b, _ := r.Open(key(1, 2))
	s := setup()
	s.Log.Stream, s.Log.Session = 1, 2
	c, _ := world.New(s)
	rand := drill.Rand(36)
	for _, p := range rand.Picks(s, 500, 1) {
		a.Pick(rand.Picks(s, 1, 2)[0])
		b.Pick(p)
		c.Pick(p)
	}
	r.Close(key(1, 1))
	a.Rounds(5)
	if !bytes.Equal(b.Bytes(), c.Bytes()) || len(b.Trace()) != len(c.Trace()) || !slices.Equal(b.Done(0), c.Done(0)) {
		t.Error("one changed another")
	}
}

func TestNil(t *testing.T) {
	var r *session.Registry
	if f, e := r.Open(key(0, 0)); f != nil || e != api.ErrArg || r.Close(key(0, 0)) || len(r.Keys())+len(r.Gauges())+r.Steps(key(0, 0)) != 0 {
		t.Error(e)
	}
}
