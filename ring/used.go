package ring

import (
	"millstream/api"
	"millstream/head"
	"millstream/ringput"
	"millstream/spots"
	"millstream/word"
)

// numbersUsed is how many bytes behind a ring's Used looks at.
const numbersUsed = 24

// Used is how many bytes whole records take up.
func Used(b []byte, r api.Ring) (int, api.Errno) {
	if ringput.Check(r) != api.OK || len(b) < spots.First(r)+numbersUsed {
		return 0, api.ErrArg
	}
	first := int64(word.Number(b[spots.Third(r):]))
	taken := int64(word.Number(b[spots.First(r):])) - first
	if taken < 0 || taken > int64(r.Size) {
		return 0, api.ErrOdd
	}
	used := int64(0)
	for used < taken {
		at := spots.Place(r, first+used)
		length, _ := head.Split(word.Number(b[r.Base+at:]))
		if length < 1 {
			break
		}
		size, _ := word.Align(int64(length), api.RecordAlign)
		if length < api.RecordHead || size > int64(r.Size-at) || size > taken-used {
			return 0, api.ErrOdd
		}
		used += size
	}
	return int(used), api.OK
}
