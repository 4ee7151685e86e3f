package drill

import (
	"bytes"
	"slices"

	"millstream/api"
)

// Setup is any setup that may be: few acts of each kind, and those who live as long as they like.
func (r *Rand) Setup() api.Setup {
	term := 256 << r.Below(3)
	l := api.Log{Base: 8 * r.Below(3), Term: term, Mtu: 32, Subs: 1 + r.Below(2), Initial: int32(r.Next()), Session: int32(r.Next()), Stream: int32(r.Next())}
	if r.Below(3) == 0 {
		l.Mtu = term / 8
	}
	s := api.Setup{Log: l, Tries: 1 << 30, Polls: api.MaxTimes, Most: 1 + r.Below(4), Cleans: api.MaxTimes, Timeout: int64(r.Below(60)), Looks: api.MaxTimes}
	for range 1 + r.Below(3) {
		var ops []api.Op
		for range 1 + r.Below(7) {
			ops = append(ops, api.Op{Kind: r.Below(3), Data: r.Bytes(r.Below(l.Term/8 + 1))})
		}
		s.Writers = append(s.Writers, ops)
	}
	return s
}

// Picks are n picks of a setup: steps mostly, some ticks, and kills of writers.
func (r *Rand) Picks(s api.Setup, n, kills int) []api.Pick {
	var l []api.Pick
	actors := len(s.Writers) + s.Log.Subs + 2
	for range n {
		p := api.Pick{Kind: api.PickStep, Actor: r.Below(actors)}
		switch k := r.Below(100); {
		case k < kills:
			p = api.Pick{Kind: api.PickKill, Actor: r.Below(len(s.Writers))}
		case k < 10:
			p = api.Pick{Kind: api.PickTick, N: int64(r.Below(9))}
		}
		l = append(l, p)
	}
	return l
}

// fabric is what tells how a setup's acts ended.
type fabric interface {
	Done(writer int) []api.Sent
}

// Put are the messages that were appended or committed whole, in the order of positions.
func Put(f fabric, s api.Setup) []api.Got {
	var l []api.Got
	for i, ops := range s.Writers {
		for j, d := range f.Done(i) {
			if d.Error == api.OK && ops[j].Kind != api.OpAbort {
				l = append(l, api.Got{End: d.End, Data: ops[j].Data})
			}
		}
	}
	slices.SortFunc(l, func(a, b api.Got) int { return int(a.End - b.End) })
	return l
}

// IsBeginning asks whether messages are a beginning of others.
func IsBeginning(a, b []api.Got) bool {
	if len(a) > len(b) {
		return false
	}
	for i := range a {
		if a[i].End != b[i].End || !bytes.Equal(a[i].Data, b[i].Data) {
			return false
		}
	}
	return true
}
