// Package frames writes frames into a log's term, step by step.
package frames

import (
	"millstream/api"
	"millstream/copies"
	"millstream/head"
	"millstream/meta"
	"millstream/steps"
)

// Spot is a log's part, and the term that stands in it now.
type Spot struct {
	Log  api.Log
	Part int
	Term int32
}

// At is where an offset stands in the buffer.
func (s Spot) At(offset int64) int { return meta.PartAt(s.Log, s.Part) + int(offset) }

// Header is a header of a length at an offset, of no flags, and padding.
func (s Spot) Header(offset, length int64) api.Frame {
	return api.Frame{
		Length:  int32(length),
		Type:    api.TypePad,
		Offset:  int32(offset),
		Session: s.Log.Session,
		Stream:  s.Log.Stream,
		Term:    s.Term,
	}
}

// Data is a header of n bytes of a message at an offset, with flags.
func (s Spot) Data(offset int64, n int, flags uint8) api.Frame {
	f := s.Header(offset, int64(api.FrameHead+n))
	f.Type, f.Flags = api.TypeData, flags
	return f
}

// Store stores a header's words, from one on, and goes on behind the last.
func Store(run *steps.Flow, at int, words []uint64, then func()) {
	if len(words) == 0 {
		then()
		return
	}
	run.Ask(steps.Store8(at, words[0]), func(api.Answer) { Store(run, at+8, words[1:], then) })
}

// Begin writes a frame that isn't at its end: its length is told below 0.
func Begin(run *steps.Flow, at int, f api.Frame, b []byte, then func()) {
	f.Length = -f.Length
	words := head.Words(f)
	Store(run, at, words[:], func() { run.Over(copies.In(at+api.FrameHead, b), then) })
}

// End tells a frame's length: it is at its end.
func End(run *steps.Flow, at int, length int32, then func()) {
	run.Ask(steps.Store4(at, uint32(length)), func(api.Answer) { then() })
}

// Write writes a whole frame.
func Write(run *steps.Flow, at int, f api.Frame, b []byte, then func()) {
	Begin(run, at, f, b, func() { End(run, at, f.Length, then) })
}

// Pad writes padding from an offset up to the term's end, if something is left of it.
func Pad(run *steps.Flow, s Spot, offset int64, then func()) {
	left := int64(s.Log.Term) - offset
	if left <= 0 {
		then()
		return
	}
	Write(run, s.At(offset), s.Header(offset, left), nil, then)
}

// Message writes a message's frames, one behind the other, from an offset on.
func Message(run *steps.Flow, s Spot, offset int64, b []byte, then func()) {
	cuts, _ := meta.Cuts(s.Log, len(b))
	var next func(i int, offset int64, b []byte)
	next = func(i int, offset int64, b []byte) {
		if i == len(cuts) {
			then()
			return
		}
		n := cuts[i]
		f := s.Data(offset, n, head.Flags(i == 0, i == len(cuts)-1))
		size, _ := head.FrameSize(n)
		Write(run, s.At(offset), f, b[:n], func() { next(i+1, offset+int64(size), b[n:]) })
	}
	next(0, offset, b)
}
