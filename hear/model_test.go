package hear_test

import (
	"bytes"
	"math"
	"testing"

	"millstream/api"
	"millstream/cast"
	"millstream/drill"
	"millstream/head"
	"millstream/hear"
)

// listen does what the chapter says, line by line.
func listen(ask drill.Asker, r api.Ring, s api.Ear) (m api.Message, ok bool, to api.Ear, e api.Errno) {
	size := int64(r.Size)
	place := func(v int64) int64 { return int64(uint64(v) % uint64(size)) }
	if int64(ask.Load8(r.Base+r.Size+8)-uint64(s.Next)) <= 0 {
		return m, false, s, api.OK
	}
	cursor := s.Next
	over := func() bool { return int64(ask.Load8(r.Base+r.Size)-uint64(cursor)) >= size }
	if over() {
		s.Lapped++
		cursor = int64(ask.Load8(r.Base + r.Size + 16))
	}
	lost := func() (api.Message, bool, api.Ear, api.Errno) {
		return api.Message{}, false, api.Ear{Cursor: s.Cursor, Next: cursor, Lapped: s.Lapped + 1}, api.ErrLost
	}
	for padded := false; ; padded = true {
		at := place(cursor)
		length, typ := head.Split(ask.Load8(r.Base + int(at)))
		takes := (int64(length) + 7) &^ 7
		if length < 8 || takes > size-at {
			return lost()
		}
		if typ == api.PadRecord {
			if padded || takes < size-at || over() {
				return lost()
			}
			cursor += takes
			continue
		}
		b := ask.Out(r.Base+int(at)+8, int(length)-8)
		if over() {
			return lost()
		}
		return api.Message{Type: typ, Data: b}, true, api.Ear{Cursor: cursor, Next: cursor + takes, Lapped: s.Lapped}, api.OK
	}
}

// TestModel: whatever it is told, a Hear does what the chapter's steps do.
func TestModel(t *testing.T) {
	r := drill.Rand(105)
	ends := map[api.Errno]int{}
	for range 4000 {
		g := api.Ring{Base: 8 * r.Below(3), Size: 64 << r.Below(2)}
		b := drill.Buffer(g.Base + g.Size + 32)
		from := start(&r, b, g)
		var places []int64
		for range r.Below(20) {
			c := cast.New(g, int32(1+r.Below(9)), r.Bytes(r.Below(g.Size/8+1)))
			drill.Run(b, c, 99)
			at, _ := c.Result()
			places = append(places, at)
		}
		s := api.Ear{Next: from, Lapped: int64(r.Below(3))}
		if k := len(places); k > 0 {
			s.Next = places[max(0, k-1-r.Below(7))]
		}
		if r.Below(8) == 0 {
			s.Next += math.MinInt64 + 8*int64(r.Below(40)-20)
		}
		h := hear.New(g, s)
		var m api.Message
		var ok bool
		var to api.Ear
		var e api.Errno
		if n := drill.Follow(&r, b, h, 60, func(ask drill.Asker) { m, ok, to, e = listen(ask, g, s) }); n < 0 {
			t.Fatal("another access, or no end:", n)
		}
		got, is, f := h.Result()
		if got.Type != m.Type || !bytes.Equal(got.Data, m.Data) || is != ok || f != e || h.State() != to {
			t.Fatal(got, is, f, h.State(), m, ok, e, to)
		}
		ends[e]++
		if ok {
			ends[-1]++
		}
	}
	if ends[api.ErrLost] < 300 || ends[-1] < 1000 {
		t.Error(ends)
	}
}
