package ringput_test

import (
	"testing"

	"millstream/api"
	"millstream/drill"
	"millstream/head"
	"millstream/ringput"
	"millstream/steps"
)

func place(v int64, size int) int64 { return int64(uint64(v) % uint64(size)) }

// put does what the chapter says, line by line.
func put(ask drill.Asker, r api.Ring, typ int32, b []byte) (int64, api.Errno) {
	size, n := int64(r.Size), len(b)
	need := int64(8+n+7) &^ 7
	first := int64(ask.Load8(r.Base + r.Size + 8))
	for {
		tail := int64(ask.Load8(r.Base + r.Size))
		if need > size-(tail-first) {
			first = int64(ask.Load8(r.Base + r.Size + 16))
			if need > size-(tail-first) {
				return 0, api.ErrFull
			}
			ask.Store8(r.Base+r.Size+8, uint64(first))
		}
		gap, pad := size-place(tail, r.Size), int64(0)
		if need > gap && need > place(first, r.Size) {
			first = int64(ask.Load8(r.Base + r.Size + 16))
			if need > place(first, r.Size) {
				return 0, api.ErrFull
			}
			ask.Store8(r.Base+r.Size+8, uint64(first))
		}
		if need > gap {
			pad = gap
		}
		if !ask(steps.Cas8(r.Base+r.Size, uint64(tail), uint64(tail+need+pad))).Done {
			continue
		}
		at := r.Base + int(place(tail, r.Size))
		if pad != 0 {
			ask.Store8(at, head.Record(int32(pad), -1))
			at = r.Base
		}
		ask.Store8(at, head.Record(int32(-8-n), typ))
		ask.In(at+8, b)
		ask.Store4(at, uint32(8+n))
		return tail + pad, api.OK
	}
}

// TestModel: whatever it is told, a Put does what the chapter's steps do.
func TestModel(t *testing.T) {
	r := drill.Rand(101)
	ends := map[api.Errno]int{}
	for range 4000 {
		g := api.Ring{Base: 8 * r.Below(3), Size: 64 << r.Below(2)}
		b := drill.Buffer(g.Base + g.Size + 32)
		tail := int64(r.Below(40) * 8)
		drill.Poke(b, g.Base+g.Size, uint64(tail))
		drill.Poke(b, g.Base+g.Size+16, uint64(tail-int64(r.Below(9)*8)))
		drill.Poke(b, g.Base+g.Size+8, uint64(tail-int64(r.Below(20)*8)))
		data := r.Bytes(r.Below(g.Size/8 + 1))
		p := ringput.New(g, 5, data)
		var at int64
		var e api.Errno
		n := drill.Follow(&r, b, p, 40, func(ask drill.Asker) { at, e = put(ask, g, 5, data) })
		if n == -2 {
			t.Fatal("another access")
		}
		if v, f := p.Result(); n >= 0 && (v != at || f != e) {
			t.Fatal(v, f, at, e)
		}
		ends[e]++
	}
	if ends[api.OK] < 1000 || ends[api.ErrFull] < 500 {
		t.Error(ends)
	}
}
