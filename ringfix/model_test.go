package ringfix_test

import (
	"testing"

	"millstream/api"
	"millstream/drill"
	"millstream/head"
	"millstream/ringfix"
)

// fix does what the chapter says, line by line.
func fix(ask drill.Asker, r api.Ring) int {
	place := func(v uint64) int { return int(v % uint64(r.Size)) }
	h := ask.Load8(r.Base + r.Size + 16)
	tail := ask.Load8(r.Base + r.Size)
	if h == tail {
		return 0
	}
	first, last := place(h), place(tail)
	if last <= first {
		last = r.Size
	}
	length, _ := head.Split(ask.Load8(r.Base + first))
	if length > 0 || int(length) < -(r.Size-first) {
		return 0
	}
	if length < 0 {
		ask.Store8(r.Base+first, head.Record(-length, -1))
		return int(-length)
	}
	at := first + 8
	for ; at < last; at += 8 {
		if ask.Load4(r.Base+at) != 0 {
			break
		}
	}
	if at >= last {
		return 0
	}
	for back := at - 8; back >= first; back -= 8 {
		if ask.Load4(r.Base+back) != 0 {
			return 0
		}
	}
	ask.Store8(r.Base+first, head.Record(int32(at-first), -1))
	return at - first
}

// TestModel: whatever it is told, a Fix does what the chapter's steps do.
func TestModel(t *testing.T) {
	r := drill.Rand(103)
	fixed := 0
	for range 4000 {
		g := api.Ring{Base: 8 * r.Below(3), Size: 64 << r.Below(2)}
		b := drill.Buffer(g.Base + g.Size + 32)
		first := r.Below(60) * 8
		drill.Poke(b, g.Base+g.Size+16, uint64(first))
		drill.Poke(b, g.Base+g.Size, uint64(first+r.Below(9)*8))
		drill.Poke(b, g.Base+first%g.Size, head.Record(int32(r.Below(3)-1)*int32(8+r.Below(20))*int32(r.Below(2)), 3))
		drill.Poke(b, g.Base+(first+8*(1+r.Below(4)))%g.Size, head.Record(int32(r.Below(3)-1), 3))
		m := ringfix.New(g)
		v := 0
		if n := drill.Follow(&r, b, m, 60, func(ask drill.Asker) { v = fix(ask, g) }); n < 0 {
			t.Fatal("another access, or no end:", n)
		}
		if w, e := m.Result(); w != v || e != api.OK {
			t.Fatal(w, e, v)
		}
		if v > 0 {
			fixed++
		}
	}
	if fixed < 500 {
		t.Error(fixed)
	}
}
