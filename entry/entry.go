// Package entry holds what an offer and a claim share: how they begin, and what they do where they trip.
package entry

import (
	"millstream/api"
	"millstream/meta"
	"millstream/place"
	"millstream/rotate"
	"millstream/steps"
)

// Gate is what one that writes looks at ahead of its claim.
type Gate struct {
	run   *steps.Flow
	l     api.Log
	need  int64
	limit int64
	count uint32
	then  func(count uint32, e api.Errno)
}

// Open asks whether a log has room for so many bytes, and goes on with the count of its term, or with an error.
func Open(run *steps.Flow, l api.Log, need int64, then func(count uint32, e api.Errno)) {
	g := &Gate{run: run, l: l, need: need, then: then}
	run.Ask(steps.Load8(meta.LimitAt(l)), func(x api.Answer) {
		g.limit = int64(x.V)
		run.Ask(steps.Load4(meta.ActiveAt(l)), func(x api.Answer) {
			g.count = uint32(x.V)
			run.Ask(steps.Load8(meta.TailAt(l, place.Part(g.count))), func(x api.Answer) {
				then(g.count, g.judge(x.V))
			})
		})
	})
}

// judge is whether there is room, by the raw tail.
func (g *Gate) judge(raw uint64) api.Errno {
	term, offset := place.Unpack(raw)
	if place.Count(term, g.l.Initial) != g.count {
		return api.ErrAdmin
	}
	if g.count >= api.MaxTerms {
		return api.ErrMax
	}
	size := int64(g.l.Term)
	position := int64(g.count)*size + min(int64(offset), size)
	if position < g.limit {
		return api.OK
	}
	if position+g.need > place.MaxPosition(size) {
		return api.ErrMax
	}
	return api.ErrFull
}

// Turn rotates a log from a term that tripped, and goes on with the error that this ends with.
func Turn(run *steps.Flow, l api.Log, term int32, then func(e api.Errno)) {
	r := rotate.New(l, term)
	run.Over(r, func() {
		if _, e := r.Result(); e == api.ErrMax {
			then(api.ErrMax)
			return
		}
		then(api.ErrAdmin)
	})
}

// End is the position behind a slot.
func End(l api.Log, s api.Slot) int64 {
	return int64(place.Count(s.Term, l.Initial))*int64(l.Term) + s.Offset + s.Size
}
