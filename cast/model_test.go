package cast_test

import (
	"testing"

	"millstream/api"
	"millstream/cast"
	"millstream/drill"
	"millstream/head"
)

// send does what the chapter says, line by line.
func send(ask drill.Asker, r api.Ring, typ int32, b []byte) int64 {
	need := int64(8+len(b)+7) &^ 7
	place := func(v int64) int { return r.Base + int(uint64(v)%uint64(r.Size)) }
	tail := int64(ask.Load8(r.Base + r.Size + 8))
	gap := int64(r.Base + r.Size - place(tail))
	if need > gap {
		ask.Store8(r.Base+r.Size, uint64(tail+gap+need))
		ask.Store8(place(tail), head.Record(int32(gap), -1))
		tail += gap
	} else {
		ask.Store8(r.Base+r.Size, uint64(tail+need))
	}
	ask.Store8(place(tail), head.Record(int32(8+len(b)), typ))
	ask.In(place(tail)+8, b)
	ask.Store8(r.Base+r.Size+16, uint64(tail))
	ask.Store8(r.Base+r.Size+8, uint64(tail+need))
	return tail
}

// TestModel: whatever it is told, a Send does what the chapter's steps do.
func TestModel(t *testing.T) {
	r := drill.Rand(104)
	for range 2000 {
		g := api.Ring{Base: 8 * r.Below(3), Size: 64 << r.Below(3)}
		b := drill.Buffer(g.Base + g.Size + 32)
		drill.Poke(b, g.Base+g.Size+8, uint64(r.Below(99)*8))
		data := r.Bytes(r.Below(g.Size/8 + 1))
		m := cast.New(g, 6, data)
		at := int64(0)
		if n := drill.Follow(&r, b, m, 60, func(ask drill.Asker) { at = send(ask, g, 6, data) }); n < 0 {
			t.Fatal("another access, or no end:", n)
		}
		if v, e := m.Result(); v != at || e != api.OK {
			t.Fatal(v, e, at)
		}
	}
}
