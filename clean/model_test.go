package clean_test

import (
	"testing"

	"millstream/api"
	"millstream/clean"
	"millstream/drill"
)

// sweep does what the chapter says, line by line.
func sweep(ask drill.Asker, l api.Log) (terms int, limit int64) {
	m, size := l.Base+3*l.Term, int64(l.Term)
	least := int64(0)
	for i := range l.Subs {
		v := int64(ask.Load8(m + 48 + 8*i))
		if i == 0 || v < least {
			least = v
		}
	}
	least = max(least, 0)
	cleaned := int64(ask.Load8(m + 40))
	for terms < 3 && cleaned >= 0 && cleaned < least/size {
		ask.In(l.Base+int(uint32(cleaned)%3)*l.Term, make([]byte, l.Term))
		cleaned++
		terms++
		ask.Store8(m+40, uint64(cleaned))
	}
	limit = int64(ask.Load8(m + 32))
	next := least
	if least < 1<<62 {
		next += size / 2
	}
	if cleaned < 1<<40 {
		next = min(next, int64(uint64(cleaned+2)*uint64(size)))
	}
	if next > limit {
		ask.Store8(m+32, uint64(next))
		limit = next
	}
	return terms, limit
}

// TestModel: whatever it is told, a Clean does what the chapter's steps do.
func TestModel(t *testing.T) {
	r := drill.Rand(111)
	wiped := 0
	for range 3000 {
		l := log()
		b := r.Log(l)
		m := clean.New(l)
		terms, limit := 0, int64(0)
		if n := drill.Follow(&r, b, m, 300, func(ask drill.Asker) { terms, limit = sweep(ask, l) }); n < 0 {
			t.Fatal("another access, or no end:", n)
		}
		if v, w, e := m.Result(); v != terms || w != limit || e != api.OK {
			t.Fatal(v, w, e, terms, limit)
		}
		wiped += terms
	}
	if wiped < 500 {
		t.Error(wiped)
	}
}
