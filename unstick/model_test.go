package unstick_test

import (
	"testing"

	"millstream/api"
	"millstream/drill"
	"millstream/head"
	"millstream/unstick"
)

// mend does what the chapter says, line by line.
func mend(ask drill.Asker, l api.Log, position int64) (n, to int64) {
	size := int64(l.Term)
	count, offset := uint32(position/size), position%size
	term := l.Initial + int32(count)
	part := l.Base + int(count%3)*l.Term
	raw := ask.Load8(l.Base + 3*l.Term + 8*int(count%3))
	end := min(int64(uint32(raw)), size)
	if int32(raw>>32) != term || offset >= end {
		return 0, 0
	}
	length := int64(int32(ask.Load8(part + int(offset))))
	if length > 0 || length < -(size-offset) {
		return 0, 0
	}
	to = int64(count)*size + end
	n = (-length + 31) &^ 31
	if length == 0 {
		at := offset + 32
		for at < end && ask.Load4(part+int(at)) == 0 {
			at += 32
		}
		at = min(at, end)
		for back := at - 32; back >= offset; back -= 32 {
			if ask.Load4(part+int(back)) != 0 {
				return 0, to
			}
		}
		n = at - offset
	}
	w := head.Words(api.Frame{Length: int32(n), Offset: int32(offset), Session: l.Session, Stream: l.Stream, Term: term})
	for _, i := range []int{1, 2, 3, 0} {
		ask.Store8(part+int(offset)+8*i, w[i])
	}
	return n, to
}

// TestModel: whatever it is told, an Unstick does what the chapter's steps do.
func TestModel(t *testing.T) {
	r := drill.Rand(112)
	mended := 0
	for range 5000 {
		l := log()
		l.Initial = int32(r.Next())
		b := r.Log(l)
		position := int64(drill.Peek(b, m+48))
		if r.Below(4) == 0 {
			position += int64(r.Below(40))
		}
		u := unstick.New(l, position)
		n, to := int64(0), int64(0)
		if n := drill.Follow(&r, b, u, 60, func(ask drill.Asker) { n, to = mend(ask, l, position) }); n < 0 {
			t.Fatal("another access, or no end:", n)
		}
		from := position
		if to == 0 {
			from = 0
		}
		a, z, ok := u.Mending()
		if v, e := u.Result(); v != n || e != api.OK || a != from || z != to || ok != (to != 0) {
			t.Fatal(v, e, a, z, ok, n, to)
		}
		if n > 0 {
			mended++
		}
	}
	if mended < 500 {
		t.Error(mended)
	}
}
