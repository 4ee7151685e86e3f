// Package chain holds a machine of machines of one kind, one behind the other.
package chain

import (
	"millstream/api"
	"millstream/steps"
)

// ticker is who is told the clock.
type ticker interface {
	Tick(now int64)
}

// Chain is a machine of machines: one function makes the next one, if there is one, another is told the one that came to its end.
type Chain[M steps.Machine] struct {
	more  func() (M, bool)
	ended func(m M)
	now   M
	on    bool
}

// New is a chain that stands at its first machine's first access.
func New[M steps.Machine](more func() (M, bool), ended func(m M)) *Chain[M] {
	c := &Chain[M]{more: more, ended: ended}
	c.goOn()
	return c
}

// goOn takes machines, till one has something to do.
func (c *Chain[M]) goOn() {
	for {
		c.now, c.on = c.more()
		if !c.on {
			return
		}
		if _, ok := c.now.Next(); ok {
			return
		}
		c.ended(c.now)
	}
}

// Now is the machine that goes on now.
func (c *Chain[M]) Now() (M, bool) {
	if c == nil {
		var none M
		return none, false
	}
	return c.now, c.on
}

// Next is the next access.
func (c *Chain[M]) Next() (api.Access, bool) {
	if c == nil || !c.on {
		return api.Access{}, false
	}
	return c.now.Next()
}

// Take tells what the access told.
func (c *Chain[M]) Take(x api.Answer) {
	if c == nil || !c.on {
		return
	}
	c.now.Take(x)
	if _, ok := c.now.Next(); !ok {
		c.ended(c.now)
		c.goOn()
	}
}

// Tick tells the clock to the machine that goes on now, if it wants to know.
func (c *Chain[M]) Tick(now int64) {
	m, ok := c.Now()
	if !ok {
		return
	}
	if t, ok := any(m).(ticker); ok {
		t.Tick(now)
	}
}
