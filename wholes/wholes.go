// Package wholes tells which event of a trace made a slot whole.
package wholes

import (
	"math"

	"millstream/api"
	"millstream/meta"
	"millstream/word"
)

// None is told of a slot that nobody made whole.
const None = -1

// open is a slot that is being written: its frames are at their end up to a place.
type open struct{ slot, at, end int }

// Find tells for each slot of a trace, in the order of their events, the event that made it whole, or None.
func Find(l api.Log, trace []api.Event, slots []api.Claimed) []int {
	made := make([]int, len(slots))
	opens := map[int][]open{}
	next := 0
	for i, x := range trace {
		actor := x.Pick.Actor
		for next < len(slots) && slots[next].Event == i {
			made[next] = None
			if s := slots[next].Slot; mayBeWhole(l, s) {
				at := meta.PartAt(l, s.Part) + int(s.Offset)
				opens[actor] = append(opens[actor], open{slot: next, at: at, end: at + int(s.Size)})
			}
			next++
		}
		if a := x.Access; isLength(a) {
			opens[actor] = extend(opens[actor], a, made, i)
		}
	}
	return made
}

// mayBeWhole asks whether a slot has bytes, and doesn't pass its term's end.
func mayBeWhole(l api.Log, s api.Slot) bool {
	return s.Size > 0 && s.Size <= int64(l.Term)-s.Offset
}

// isLength asks whether an access stores what may be a frame's length.
func isLength(a api.Access) bool {
	return a.Kind == api.Store && a.N == 4 && a.V >= 1 && a.V <= math.MaxInt32
}

// extend lets an actor's slots go on where a frame of theirs came to its end: those that aren't whole yet.
func extend(l []open, a api.Access, made []int, event int) []open {
	var left []open
	for _, o := range l {
		if o.at == a.At {
			size, _ := word.Align(int64(a.V), api.FrameAlign)
			o.at += int(size)
		}
		if o.at == o.end {
			made[o.slot] = event
		}
		if o.at < o.end {
			left = append(left, o)
		}
	}
	return left
}
