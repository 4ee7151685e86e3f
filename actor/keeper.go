package actor

import (
	"millstream/api"
	"millstream/chain"
	"millstream/clean"
	"millstream/meta"
)

// Keeper cleans a log.
type Keeper struct {
	cleans *chain.Chain[*clean.Clean]
	l      api.Log
	times  int
	terms  int
}

// Keep cleans a log, so many times.
func Keep(l api.Log, times int) *Keeper {
	k := &Keeper{l: l, times: min(times, api.MaxTimes)}
	if meta.Check(l) != api.OK {
		// Each clean would end at once.
		k.times = 0
	}
	k.cleans = chain.New(k.more, k.ended)
	return k
}

// more cleans once more.
func (k *Keeper) more() (*clean.Clean, bool) {
	if k.times < 1 {
		return nil, false
	}
	k.times--
	return clean.New(k.l), true
}

// ended counts what was wiped.
func (k *Keeper) ended(c *clean.Clean) {
	n, _, _ := c.Result()
	k.terms += n
}

// Next is the next access.
func (k *Keeper) Next() (api.Access, bool) {
	if k == nil {
		return api.Access{}, false
	}
	return k.cleans.Next()
}

// Take tells what the access told.
func (k *Keeper) Take(x api.Answer) {
	if k != nil {
		k.cleans.Take(x)
	}
}

// Terms are how many were wiped so far.
func (k *Keeper) Terms() int {
	if k == nil {
		return 0
	}
	n := 0
	if c, ok := k.cleans.Now(); ok {
		n, _, _ = c.Result()
	}
	return k.terms + n
}
