package poll_test

import (
	"bytes"
	"testing"

	"millstream/api"
	"millstream/drill"
	"millstream/head"
	"millstream/poll"
)

// read1 does what the chapter says, line by line.
func read1(ask drill.Asker, l api.Log, sub, most int) (list []api.Fragment, v int64, e api.Errno) {
	m, size := l.Base+3*l.Term, int64(l.Term)
	position := int64(ask.Load8(m + 48 + 8*sub))
	if position < 0 || position >= size<<31 {
		return nil, 0, api.ErrOdd
	}
	count, offset, done := uint32(position/size), position%size, int64(0)
	part := l.Base + int(count%3)*l.Term
	if offset == 0 && int32(ask.Load8(part+16)>>32) != l.Initial+int32(count) {
		return nil, 0, api.OK
	}
	for len(list) < most && offset+done < size {
		f := head.Frame([4]uint64{ask.Load8(part + int(offset+done))})
		if f.Length < 1 {
			break
		}
		takes := (int64(f.Length) + 31) &^ 31
		if f.Length < 32 || takes > size-offset-done {
			e = api.ErrOdd
			break
		}
		if f.Type != api.TypePad {
			b := ask.Out(part+int(offset+done)+32, int(f.Length)-32)
			list = append(list, api.Fragment{End: position + done + takes, Flags: f.Flags, Data: b})
		}
		done += takes
	}
	if done != 0 {
		ask.Store8(m+48+8*sub, uint64(position+done))
	}
	if e != api.OK {
		return list, 0, e
	}
	return list, done, api.OK
}

// TestModel: whatever it is told, a Poll does what the chapter's steps do.
func TestModel(t *testing.T) {
	r := drill.Rand(110)
	ends := map[api.Errno]int{}
	for range 5000 {
		l := log()
		l.Initial = int32(r.Next())
		b := r.Log(l)
		if r.Below(2) == 0 {
			drill.Poke(b, m+48, drill.Peek(b, m+48)/256*256)
		}
		most := 1 + r.Below(5)
		p := poll.New(l, 0, most)
		var list []api.Fragment
		var v int64
		var e api.Errno
		if n := drill.Follow(&r, b, p, 300, func(ask drill.Asker) { list, v, e = read1(ask, l, 0, most) }); n < 0 {
			t.Fatal("another access, or no end:", n)
		}
		got := p.Fragments()
		if w, f := p.Result(); w != v || f != e || len(got) != len(list) {
			t.Fatal(w, f, got, v, e, list)
		}
		for i := range got {
			if got[i].End != list[i].End || got[i].Flags != list[i].Flags || !bytes.Equal(got[i].Data, list[i].Data) {
				t.Fatal(got, list)
			}
		}
		ends[e]++
		ends[-1] += len(got)
	}
	if ends[api.OK] < 1000 || ends[api.ErrOdd] < 300 || ends[-1] < 1000 {
		t.Error(ends)
	}
}
