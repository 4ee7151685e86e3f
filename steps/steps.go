// Package steps holds a machine that goes on by function values; the layers' machines are made of it.
package steps

import (
	"millstream/api"
	"millstream/fresh"
)

// Machine does accesses, one behind the other.
type Machine interface {
	Next() (api.Access, bool)
	Take(x api.Answer)
}

// Flow is a machine that wants an access and goes on with its answer, or lets another machine do all it does. An empty one is at its end.
type Flow struct {
	access api.Access
	then   func(x api.Answer)
	inner  Machine
	after  func()
}

// Ask makes an access the next one; what it tells goes on in a function.
func (f *Flow) Ask(a api.Access, then func(x api.Answer)) { f.access, f.then = a, then }

// Over lets a machine go on to its end, and goes on behind it.
func (f *Flow) Over(m Machine, after func()) {
	if _, ok := m.Next(); !ok {
		after()
		return
	}
	f.inner, f.after = m, after
}

// Busy asks whether it isn't at its end.
func (f *Flow) Busy() bool { return f.inner != nil || f.then != nil }

// Next is the next access.
func (f *Flow) Next() (api.Access, bool) {
	if f.inner != nil {
		return f.inner.Next()
	}
	if f.then == nil {
		return api.Access{}, false
	}
	return fresh.Access(f.access), true
}

// Take tells what the access told.
func (f *Flow) Take(x api.Answer) {
	if f.inner != nil {
		f.pass(x)
		return
	}
	if then := f.then; then != nil {
		f.then = nil
		then(x)
	}
}

// pass tells the inner machine, and goes on where that is at its end.
func (f *Flow) pass(x api.Answer) {
	f.inner.Take(x)
	if _, ok := f.inner.Next(); ok {
		return
	}
	after := f.after
	f.inner, f.after = nil, nil
	after()
}

// Load8 loads eight bytes.
func Load8(at int) api.Access { return api.Access{Kind: api.Load, At: at, N: 8} }

// Load4 loads four bytes.
func Load4(at int) api.Access { return api.Access{Kind: api.Load, At: at, N: 4} }

// Store8 stores eight bytes.
func Store8(at int, v uint64) api.Access { return api.Access{Kind: api.Store, At: at, N: 8, V: v} }

// Store4 stores four bytes.
func Store4(at int, v uint32) api.Access {
	return api.Access{Kind: api.Store, At: at, N: 4, V: uint64(v)}
}

// Add8 adds to eight bytes.
func Add8(at int, v uint64) api.Access { return api.Access{Kind: api.Add, At: at, N: 8, V: v} }

// Cas8 stores w in eight bytes, if v is there.
func Cas8(at int, v, w uint64) api.Access {
	return api.Access{Kind: api.Cas, At: at, N: 8, V: v, W: w}
}

// Cas4 stores w in four bytes, if v is there.
func Cas4(at int, v, w uint32) api.Access {
	return api.Access{Kind: api.Cas, At: at, N: 4, V: uint64(v), W: uint64(w)}
}
