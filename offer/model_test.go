package offer_test

import (
	"testing"

	"millstream/api"
	"millstream/drill"
	"millstream/offer"
)

// put does what the chapter says, line by line.
func put(ask drill.Asker, l api.Log, b []byte, need int64) (s api.Slot, has bool, end int64, e api.Errno) {
	if s, has, e = ask.Enter(l, need); e != api.OK {
		return s, has, 0, e
	}
	at := l.Base + s.Part*l.Term
	if s.Offset+need > int64(l.Term) {
		ask.Pad(l, at+int(s.Offset), s.Term, s.Offset)
		if _, e := ask.Rotate(l, s.Term); e == api.ErrMax {
			return s, true, 0, api.ErrMax
		}
		return s, true, 0, api.ErrAdmin
	}
	spot := l
	spot.Base, spot.Initial = at, s.Term
	ask.Message(spot, s.Term, s.Offset, b)
	return s, true, int64(uint32(s.Term)-uint32(l.Initial))*int64(l.Term) + s.Offset + need, api.OK
}

// TestModel: whatever it is told, an Offer does what the chapter's steps do.
func TestModel(t *testing.T) {
	r := drill.Rand(108)
	ends := map[api.Errno]int{}
	for range 6000 {
		l := log()
		l.Base, l.Initial = 8*r.Below(3), int32(r.Next())
		data := r.Bytes(r.Below(33))
		need := int64(32+len(data)+31) &^ 31
		m := offer.New(l, data)
		var slot api.Slot
		var has bool
		var end int64
		var e api.Errno
		n := drill.Follow(&r, r.Log(l), m, 300, func(ask drill.Asker) { slot, has, end, e = put(ask, l, data, need) })
		if n < 0 {
			t.Fatal("another access, or no end:", n)
		}
		got, ok := m.Slot()
		if v, f := m.Result(); v != end || f != e || got != slot || ok != has {
			t.Fatal(v, f, got, ok, end, e, slot, has)
		}
		ends[e]++
	}
	if ends[api.OK] < 500 || ends[api.ErrFull] < 100 || ends[api.ErrAdmin] < 500 {
		t.Error(ends)
	}
}
