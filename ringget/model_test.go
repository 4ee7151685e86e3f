package ringget_test

import (
	"bytes"
	"testing"

	"millstream/api"
	"millstream/drill"
	"millstream/head"
	"millstream/ringget"
)

// get does what the chapter says, line by line.
func get(ask drill.Asker, r api.Ring, most int) (l []api.Message, v int64, e api.Errno) {
	at := int64(ask.Load8(r.Base + r.Size + 16))
	first, done := int(uint64(at)%uint64(r.Size)), 0
	for len(l) < most && first+done < r.Size {
		length, typ := head.Split(ask.Load8(r.Base + first + done))
		size := (int64(length) + 7) &^ 7
		if length < 1 {
			break
		}
		if length < 8 || size > int64(r.Size-first-done) {
			e = api.ErrOdd
			break
		}
		if typ != api.PadRecord {
			l = append(l, api.Message{Type: typ, Data: ask.Out(r.Base+first+done+8, int(length)-8)})
		}
		done += int(size)
	}
	if done != 0 {
		ask.In(r.Base+first, make([]byte, done))
		ask.Store8(r.Base+r.Size+16, uint64(at+int64(done)))
	}
	if e != api.OK {
		return l, 0, e
	}
	return l, int64(done), api.OK
}

// TestModel: whatever it is told, a Get does what the chapter's steps do.
func TestModel(t *testing.T) {
	r := drill.Rand(102)
	ends := map[api.Errno]int{}
	for range 4000 {
		g := api.Ring{Base: 8 * r.Below(3), Size: 64 << r.Below(3)}
		b := drill.Buffer(g.Base + g.Size + 32)
		at := r.Below(g.Size/8) * 8
		drill.Poke(b, g.Base+g.Size+16, uint64(at+g.Size*r.Below(9)))
		for r.Below(9) > 0 && at < g.Size {
			length := 8 + r.Below(20)
			drill.Poke(b, g.Base+at, head.Record(int32(length), int32(1+r.Below(4)*r.Below(2))-2*int32(r.Below(7)/6)))
			at += (length + 7) &^ 7
		}
		most := 1 + r.Below(6)
		m := ringget.New(g, most)
		var l []api.Message
		var v int64
		var e api.Errno
		n := drill.Follow(&r, b, m, 200, func(ask drill.Asker) { l, v, e = get(ask, g, most) })
		if n < 0 {
			t.Fatal("another access, or no end:", n)
		}
		got := m.Messages()
		if w, f := m.Result(); w != v || f != e || len(got) != len(l) {
			t.Fatal(w, f, v, e)
		}
		for i := range l {
			if l[i].Type != got[i].Type || !bytes.Equal(l[i].Data, got[i].Data) {
				t.Fatal(l[i], got[i])
			}
		}
		ends[e]++
	}
	if ends[api.OK] < 1000 || ends[api.ErrOdd] < 500 {
		t.Error(ends)
	}
}
