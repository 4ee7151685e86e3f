package appends_test

import (
	"testing"

	"millstream/api"
	"millstream/appends"
	"millstream/drill"
	"millstream/steps"
)

// TestModel: whatever it is told, an Append does what the chapter's steps do.
func TestModel(t *testing.T) {
	r := drill.Rand(107)
	trips := 0
	for range 3000 {
		l := log()
		data := r.Bytes(r.Below(65))
		count := uint32(r.Below(6))
		part := int(count % 3)
		need := int64(32+len(data)+31) &^ 31
		if len(data) > 32 {
			need = 64 + int64(len(data)+31)&^31
		}
		m := appends.New(l, count, data)
		var slot api.Slot
		tripped := false
		n := drill.Follow(&r, r.Log(l), m, 300, func(ask drill.Asker) {
			raw := ask(steps.Add8(tailAt+8*part, uint64(need))).V
			slot = api.Slot{Part: part, Term: int32(raw >> 32), Offset: int64(uint32(raw)), Size: need}
			tripped = slot.Offset+need > 512
			if tripped {
				ask.Pad(l, 8+512*part+int(slot.Offset), slot.Term, slot.Offset)
				return
			}
			at := l
			at.Base, at.Initial = 8+512*part, slot.Term
			ask.Message(at, slot.Term, slot.Offset, data)
		})
		if n < 0 {
			t.Fatal("another access, or no end:", n)
		}
		got, ok := m.Slot()
		if v, e := m.Result(); v != tripped || e != api.OK || got != slot || !ok {
			t.Fatal(v, e, got, slot)
		}
		if tripped {
			trips++
		}
	}
	if trips < 300 {
		t.Error(trips)
	}
}
