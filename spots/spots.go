// Package spots tells where a ring's, or a broadcast's, records and numbers stand in a buffer.
package spots

import (
	"millstream/api"
	"millstream/word"
)

// First is where the first number stands: a ring's tail, a broadcast's intent.
func First(r api.Ring) int { return r.Base + r.Size }

// Second is where the second number stands: the copy of a ring's head, a broadcast's tail.
func Second(r api.Ring) int { return First(r) + 8 }

// Third is where the third number stands: a ring's head, a broadcast's latest.
func Third(r api.Ring) int { return First(r) + 16 }

// Fourth is where the fourth number stands: the next correlation.
func Fourth(r api.Ring) int { return First(r) + 24 }

// Place is a position's place: how far from the beginning it stands.
func Place(r api.Ring, position int64) int { return int(word.Mask(position, int64(r.Size))) }
