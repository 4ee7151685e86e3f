package claim_test

import (
	"testing"

	"millstream/api"
	"millstream/claim"
	"millstream/drill"
)

// put does what the chapter says, line by line.
func put(ask drill.Asker, l api.Log, b []byte, commit bool) (s api.Slot, has bool, end int64, e api.Errno) {
	need := int64(32+len(b)+31) &^ 31
	if s, has, e = ask.Enter(l, need); e != api.OK {
		return s, has, 0, e
	}
	at := l.Base + s.Part*l.Term + int(s.Offset)
	if s.Offset+need > int64(l.Term) {
		ask.Pad(l, at, s.Term, s.Offset)
		if _, e := ask.Rotate(l, s.Term); e == api.ErrMax {
			return s, true, 0, api.ErrMax
		}
		return s, true, 0, api.ErrAdmin
	}
	f := api.Frame{Length: int32(32 + len(b)), Flags: 192, Type: 1, Offset: int32(s.Offset), Session: l.Session, Stream: l.Stream, Term: s.Term}
	ask.Begin(at, f, b)
	if !commit {
		ask.Store4(at+4, 192<<8)
	}
	ask.Store4(at, uint32(f.Length))
	return s, true, int64(uint32(s.Term)-uint32(l.Initial))*int64(l.Term) + s.Offset + need, api.OK
}

// TestModel: whatever it is told, a Claim does what the chapter's steps do.
func TestModel(t *testing.T) {
	r := drill.Rand(109)
	ends := map[api.Errno]int{}
	for range 6000 {
		l := log()
		l.Base, l.Initial, l.Mtu = 8*r.Below(3), int32(r.Next()), 64
		data, commit := r.Bytes(r.Below(65)), r.Below(2) == 0
		m := claim.New(l, data, commit)
		var slot api.Slot
		var has bool
		var end int64
		var e api.Errno
		n := drill.Follow(&r, r.Log(l), m, 300, func(ask drill.Asker) { slot, has, end, e = put(ask, l, data, commit) })
		if n < 0 {
			t.Fatal("another access, or no end:", n)
		}
		got, ok := m.Slot()
		if v, f := m.Result(); v != end || f != e || got != slot || ok != has {
			t.Fatal(v, f, got, ok, end, e, slot, has)
		}
		ends[e]++
	}
	if ends[api.OK] < 500 || ends[api.ErrFull] < 100 || ends[api.ErrAdmin] < 500 {
		t.Error(ends)
	}
}
