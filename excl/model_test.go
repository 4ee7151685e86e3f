package excl_test

import (
	"testing"

	"millstream/api"
	"millstream/drill"
	"millstream/excl"
)

// offer does what the chapter says, line by line.
func offer(ask drill.Asker, l api.Log, s api.Excl, b []byte, need int64) (end int64, to api.Excl, e api.Errno) {
	m, size := l.Base+3*l.Term, int64(l.Term)
	term, part := l.Initial+int32(s.Count), int(s.Count%3)
	position := int64(s.Count)*size + s.Offset
	raw := func(term int32, offset int64) uint64 { return uint64(uint32(term))<<32 | uint64(offset) }
	if position >= int64(ask.Load8(m+32)) {
		return 0, s, api.ErrFull
	}
	if s.Offset+need <= size {
		ask.Store8(m+8*part, raw(term, s.Offset+need))
		ask.Message(l, term, s.Offset, b)
		return position + need, api.Excl{Count: s.Count, Offset: s.Offset + need}, api.OK
	}
	if s.Offset < size {
		ask.Store8(m+8*part, raw(term, size))
		ask.Pad(l, l.Base+part*l.Term+int(s.Offset), term, s.Offset)
		s.Offset = size
	}
	if int64(ask.Load8(m+40)) < int64(s.Count)-1 {
		return 0, s, api.ErrAdmin
	}
	if int64(s.Count)+1 >= 1<<31 {
		return 0, s, api.ErrMax
	}
	ask.Store8(m+8*int((s.Count+1)%3), raw(term+1, 0))
	ask.Store4(m+24, s.Count+1)
	return 0, api.Excl{Count: s.Count + 1}, api.ErrAdmin
}

// TestModel: whatever it is told, a lone offer does what the chapter's steps do.
func TestModel(t *testing.T) {
	r := drill.Rand(113)
	ends := map[api.Errno]int{}
	for range 5000 {
		l := log()
		l.Base, l.Initial = 8*r.Below(3), int32(r.Next())
		s := api.Excl{Count: uint32(r.Below(5)), Offset: int64(r.Below(17) * 32)}
		if r.Below(20) == 0 {
			s.Count = 1<<31 - 1 - uint32(r.Below(2))
		}
		data := r.Bytes(r.Below(65))
		need := int64(32+len(data)+31) &^ 31
		if len(data) > 32 {
			need = 64 + int64(len(data)+31)&^31
		}
		m := excl.New(l, s, data)
		var end int64
		var to api.Excl
		var e api.Errno
		if n := drill.Follow(&r, r.Log(l), m, 60, func(ask drill.Asker) { end, to, e = offer(ask, l, s, data, need) }); n < 0 {
			t.Fatal("another access, or no end:", n)
		}
		if v, f := m.Result(); v != end || f != e || m.State() != to {
			t.Fatal(v, f, m.State(), end, e, to)
		}
		ends[e]++
	}
	if ends[api.OK] < 500 || ends[api.ErrFull] < 500 || ends[api.ErrAdmin] < 200 {
		t.Error(ends)
	}
}
