package drill

import (
	"millstream/api"
	"millstream/head"
	"millstream/membuf"
	"millstream/steps"
)

// Asker does an access, as a model of a machine wants it, and tells what it told.
type Asker func(a api.Access) api.Answer

// halt is what a model is stopped by, where it wants an access that wasn't answered yet.
type halt struct{ want api.Access }

// ahead is what a model wants behind so many answers: nothing, if it is at its end then.
func ahead(model func(ask Asker), told []api.Answer) (want api.Access, ok bool) {
	defer func() {
		if h, stopped := recover().(halt); stopped {
			want, ok = h.want, true
		}
	}()
	model(func(a api.Access) api.Answer {
		if len(told) == 0 {
			panic(halt{a})
		}
		x := told[0]
		told = told[1:]
		return x
	})
	return api.Access{}, false
}

// Follow holds a machine against a model, that is run anew with all answers ahead of each access. Answers come from a buffer mostly, some are any. It tells after how many accesses both were at their end, -1, if they weren't within so many, -2, if one wants another access than the other.
func Follow(r *Rand, b *membuf.Buffer, m steps.Machine, most int, model func(ask Asker)) int {
	var told []api.Answer
	odds := r.Below(4)
	for n := range most {
		want, more := ahead(model, told)
		a, ok := m.Next()
		if ok != more || !Same(a, want) {
			return -2
		}
		if !ok {
			return n
		}
		x, _ := b.Do(a)
		if r.Below(12) < odds {
			x = r.mild(a)
		}
		told = append(told, x)
		m.Take(x)
	}
	return -1
}

// mild is any answer that a buffer might give, if others wrote it too: small numbers, and headers of small lengths.
func (r *Rand) mild(a api.Access) api.Answer {
	v := uint64(r.Below(100)) * 8
	switch r.Below(4) {
	case 0:
		v = uint64(uint32(r.Below(200)-60)) | uint64(uint32(r.Below(4)-1))<<32
	case 1:
		v = 0
	}
	if a.N == 4 {
		v &= 0xffffffff
	}
	return api.Answer{V: v, Done: a.Kind == api.Cas && r.Below(2) == 0, B: r.Bytes(r.Below(12))}
}

// Out asks for n bytes at a place.
func (ask Asker) Out(at, n int) []byte {
	var b []byte
	for n > 0 {
		k := min(n, api.MaxChunk)
		b = append(b, ask(api.Access{Kind: api.Read, At: at, N: k}).B...)
		at, n = at+k, n-k
	}
	return b
}

// In writes bytes at a place.
func (ask Asker) In(at int, b []byte) {
	for len(b) > 0 {
		k := min(len(b), api.MaxChunk)
		ask(api.Access{Kind: api.Write, At: at, N: k, B: b[:k]})
		at, b = at+k, b[k:]
	}
}

// Load8 loads eight bytes.
func (ask Asker) Load8(at int) uint64 { return ask(steps.Load8(at)).V }

// Load4 loads four bytes.
func (ask Asker) Load4(at int) uint32 { return uint32(ask(steps.Load4(at)).V) }

// Store8 stores eight bytes.
func (ask Asker) Store8(at int, v uint64) { ask(steps.Store8(at, v)) }

// Store4 stores four bytes.
func (ask Asker) Store4(at int, v uint32) { ask(steps.Store4(at, v)) }

// Begin writes a frame that isn't at its end.
func (ask Asker) Begin(at int, f api.Frame, b []byte) {
	f.Length = -f.Length
	for i, v := range head.Words(f) {
		ask.Store8(at+8*i, v)
	}
	ask.In(at+api.FrameHead, b)
}

// Frame writes a frame.
func (ask Asker) Frame(at int, f api.Frame, b []byte) {
	ask.Begin(at, f, b)
	ask.Store4(at, uint32(f.Length))
}

// Message writes a message's frames into a log's term, from an offset on.
func (ask Asker) Message(l api.Log, term int32, offset int64, b []byte) {
	part := l.Base + int(uint32(term)-uint32(l.Initial))%api.Parts*l.Term
	for first := true; first || len(b) > 0; first = false {
		n := min(len(b), l.Mtu)
		f := api.Frame{Length: int32(32 + n), Type: api.TypeData, Offset: int32(offset), Session: l.Session, Stream: l.Stream, Term: term}
		if first {
			f.Flags |= api.FlagBegin
		}
		if n == len(b) {
			f.Flags |= api.FlagEnd
		}
		ask.Frame(part+int(offset), f, b[:n])
		offset += int64(32+n+31) &^ 31
		b = b[n:]
	}
}

// Pad writes padding from an offset up to the term's end.
func (ask Asker) Pad(l api.Log, at int, term int32, offset int64) {
	if left := int64(l.Term) - offset; left > 0 {
		ask.Frame(at, api.Frame{Length: int32(left), Offset: int32(offset), Session: l.Session, Stream: l.Stream, Term: term}, nil)
	}
}

// Rotate does what layer 15 says: whether it moved the active count on.
func (ask Asker) Rotate(l api.Log, term int32) (bool, api.Errno) {
	m := l.Base + api.Parts*l.Term
	count := uint32(term) - uint32(l.Initial)
	if int64(count)+1 >= api.MaxTerms {
		return false, api.ErrMax
	}
	if int64(ask.Load8(m+40)) < int64(count)-1 {
		return false, api.ErrFull
	}
	at := m + 8*int((count+1)%api.Parts)
	for {
		raw := ask.Load8(at)
		if int32(raw>>32) != term+1-3 || ask(steps.Cas8(at, raw, uint64(uint32(term+1))<<32)).Done {
			break
		}
	}
	return ask(steps.Cas4(m+24, count, count+1)).Done, api.OK
}

// Enter does the first steps of layer 17, up to the Add: the slot of so many bytes, or an error.
func (ask Asker) Enter(l api.Log, need int64) (s api.Slot, has bool, e api.Errno) {
	m, size := l.Base+api.Parts*l.Term, int64(l.Term)
	limit := int64(ask.Load8(m + 32))
	count := ask.Load4(m + 24)
	part := int(count % api.Parts)
	raw := ask.Load8(m + 8*part)
	if uint32(raw>>32)-uint32(l.Initial) != count {
		return s, false, api.ErrAdmin
	}
	if count >= api.MaxTerms {
		return s, false, api.ErrMax
	}
	if position := int64(count)*size + min(int64(uint32(raw)), size); position >= limit {
		if position+need > api.MaxTerms*size {
			return s, false, api.ErrMax
		}
		return s, false, api.ErrFull
	}
	raw = ask(steps.Add8(m+8*part, uint64(need))).V
	return api.Slot{Part: part, Term: int32(raw >> 32), Offset: int64(uint32(raw)), Size: need}, true, api.OK
}

// Log is a buffer of a log that was written for a while, by the rule.
func (r *Rand) Log(l api.Log) *membuf.Buffer {
	m := l.Base + api.Parts*l.Term
	b := Buffer(m + 128)
	count := uint32(r.Below(5))
	for part := range api.Parts {
		Poke(b, m+8*part, uint64(uint32(l.Initial)-1)<<32)
	}
	for k := range uint32(3) {
		c := count + k - 2
		offset := uint64(r.Below(l.Term/32+2)) * 32
		if k < 2 {
			offset = uint64(l.Term) + uint64(r.Below(3))*32
		}
		Poke(b, m+8*int(c%api.Parts), uint64(uint32(l.Initial)+c)<<32|offset)
	}
	b.Do(steps.Store4(m+24, count))
	Poke(b, m+32, uint64(count)*uint64(l.Term)+uint64(r.Below(2*l.Term)))
	Poke(b, m+40, uint64(count+uint32(r.Below(3)))-1)
	for i := range l.Subs {
		Poke(b, m+48+8*i, uint64(count)*uint64(l.Term)+uint64(r.Below(l.Term/32))*32)
	}
	r.frames(b, l, count)
	return b
}

// frames puts frames of a term one behind the other, of all states.
func (r *Rand) frames(b *membuf.Buffer, l api.Log, count uint32) {
	at, end := l.Base+int(count%api.Parts)*l.Term, l.Base+int(count%api.Parts+1)*l.Term
	for at < end {
		f := api.Frame{Length: int32(32 + r.Below(l.Mtu+1)), Type: uint16(r.Below(5)/4 ^ 1), Flags: uint8(r.Next()), Term: l.Initial + int32(count)}
		size := int(f.Length+31) &^ 31
		switch r.Below(8) {
		case 0:
			f.Length = -f.Length
		case 1:
			f.Length = 0
		case 2:
			f.Length = int32(r.Below(32))
		}
		for i, v := range head.Words(f) {
			if at+32 <= end {
				Poke(b, at+8*i, v)
			}
		}
		at += size
	}
}
