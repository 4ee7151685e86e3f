// Package drill holds what the tests of several layers share.
package drill

import (
	"bytes"

	"millstream/api"
	"millstream/membuf"
	"millstream/steps"
)

// Rand makes numbers by a short rule, always the same ones.
type Rand uint64

// Next is the next number.
func (r *Rand) Next() uint64 {
	*r = *r*6364136223846793005 + 1442695040888963407
	v := uint64(*r)
	return v>>33 ^ v<<13 ^ v>>7
}

// Below is the next number, below n.
func (r *Rand) Below(n int) int { return int(r.Next() >> 1 % uint64(n)) }

// Bytes are n bytes by the rule.
func (r *Rand) Bytes(n int) []byte {
	b := make([]byte, n)
	for i := range b {
		b[i] = byte(r.Next() >> 8)
	}
	return b
}

// Answer is any answer: mostly small numbers and edges.
func (r *Rand) Answer() api.Answer {
	v := r.Next()
	switch r.Below(8) {
	case 0:
		v = 0
	case 1:
		v = uint64(r.Below(512))
	case 2:
		v = -uint64(r.Below(512))
	case 3:
		v = uint64(r.Below(64)) | uint64(r.Below(5))<<32
	case 4:
		v = uint64(r.Below(64)) | 0xffffffff<<32
	case 5:
		v = 1 << 63 >> r.Below(34)
	}
	return api.Answer{V: v, Done: r.Below(2) == 0, B: r.Bytes(r.Below(12))}
}

// Buffer is a new buffer of as many bytes, or nil.
func Buffer(size int) *membuf.Buffer {
	b, _ := membuf.New(size)
	return b
}

// Peek is the number of eight bytes at a place.
func Peek(b *membuf.Buffer, at int) uint64 {
	x, _ := b.Do(steps.Load8(at))
	return x.V
}

// Poke stores a number of eight bytes at a place.
func Poke(b *membuf.Buffer, at int, v uint64) { b.Do(steps.Store8(at, v)) }

// Step lets a machine do one access; what the buffer refuses answers nothing.
func Step(b *membuf.Buffer, m steps.Machine) bool {
	a, ok := m.Next()
	if ok {
		x, _ := b.Do(a)
		m.Take(x)
	}
	return ok
}

// Run lets a machine go on to its end, or for so many accesses: those that it did.
func Run(b *membuf.Buffer, m steps.Machine, most int) []api.Access {
	var l []api.Access
	for range most {
		a, ok := m.Next()
		if !ok {
			break
		}
		l = append(l, a)
		Step(b, m)
	}
	return l
}

// Tell answers a machine's accesses, and gathers them; the last one is what it wants behind them.
func Tell(m steps.Machine, answers ...api.Answer) []api.Access {
	var l []api.Access
	for _, x := range answers {
		if a, ok := m.Next(); ok {
			l = append(l, a)
		}
		m.Take(x)
	}
	if a, ok := m.Next(); ok {
		l = append(l, a)
	}
	return l
}

// Number is an answer that tells a number.
func Number(v uint64) api.Answer { return api.Answer{V: v} }

// Same asks whether two accesses are the same in all fields.
func Same(a, b api.Access) bool {
	return a.Kind == b.Kind && a.At == b.At && a.N == b.N && a.V == b.V && a.W == b.W && bytes.Equal(a.B, b.B)
}

// Alike asks whether two rows of accesses are the same.
func Alike(a, b []api.Access) bool {
	if len(a) != len(b) {
		return false
	}
	for i := range a {
		if !Same(a[i], b[i]) {
			return false
		}
	}
	return true
}

// Fuzz tells a machine any answers, as long as it goes on, but most at most: how many. Each of its accesses must stay till it is taken, else the answer is -1.
func Fuzz(r *Rand, m steps.Machine, most int) int {
	for i := range most {
		a, ok := m.Next()
		if !ok {
			m.Take(r.Answer())
			return i
		}
		for j := range a.B {
			a.B[j]++
		}
		b, _ := m.Next()
		for j := range a.B {
			a.B[j]--
		}
		if !Same(a, b) {
			return -1
		}
		m.Take(r.Answer())
	}
	return most
}
