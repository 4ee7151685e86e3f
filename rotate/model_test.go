package rotate_test

import (
	"testing"

	"millstream/api"
	"millstream/drill"
	"millstream/rotate"
)

// TestModel: whatever it is told, a Rotate does what the chapter's steps do.
func TestModel(t *testing.T) {
	r := drill.Rand(106)
	ends := map[api.Errno]int{}
	for range 3000 {
		l := log(int32(r.Next()))
		term := l.Initial + int32(r.Below(6))
		m := rotate.New(l, term)
		var moved bool
		var e api.Errno
		if n := drill.Follow(&r, r.Log(l), m, 300, func(ask drill.Asker) { moved, e = ask.Rotate(l, term) }); n < 0 {
			t.Fatal("another access, or no end:", n)
		}
		if v, f := m.Result(); v != moved || f != e {
			t.Fatal(v, f, moved, e)
		}
		ends[e]++
		if moved {
			ends[-1]++
		}
	}
	if ends[api.ErrFull] < 100 || ends[-1] < 100 || ends[api.OK] < 1000 {
		t.Error(ends)
	}
}
