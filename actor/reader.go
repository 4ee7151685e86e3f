package actor

import (
	"millstream/api"
	"millstream/chain"
	"millstream/fresh"
	"millstream/join"
	"millstream/poll"
)

// Reader reads a log.
type Reader struct {
	polls     *chain.Chain[*poll.Poll]
	l         api.Log
	sub, most int
	times     int
	joiner    *join.Joiner
	messages  []api.Got
	e         api.Errno
}

// Read reads a log, so many times.
func Read(l api.Log, sub, times, most int) *Reader {
	r := &Reader{l: l, sub: sub, most: most, times: min(times, api.MaxTimes), joiner: join.New()}
	r.polls = chain.New(r.more, r.ended)
	return r
}

// more polls once more.
func (r *Reader) more() (*poll.Poll, bool) {
	if r.times < 1 {
		return nil, false
	}
	r.times--
	return poll.New(r.l, r.sub, r.most), true
}

// ended joins what was read.
func (r *Reader) ended(p *poll.Poll) {
	for _, f := range p.Fragments() {
		if b, ok := r.joiner.Push(f); ok {
			r.messages = append(r.messages, api.Got{End: f.End, Data: b})
		}
	}
	_, e := p.Result()
	if r.e == api.OK {
		r.e = e
	}
	if e == api.ErrArg {
		// Each further poll would end so at once.
		r.times = 0
	}
}

// Next is the next access.
func (r *Reader) Next() (api.Access, bool) {
	if r == nil {
		return api.Access{}, false
	}
	return r.polls.Next()
}

// Take tells what the access told.
func (r *Reader) Take(x api.Answer) {
	if r != nil {
		r.polls.Take(x)
	}
}

// Messages are those that were joined so far.
func (r *Reader) Messages() []api.Got {
	if r == nil {
		return nil
	}
	return fresh.List(r.messages, func(g api.Got) api.Got {
		g.Data = fresh.Bytes(g.Data)
		return g
	})
}

// Error is the first error of a poll.
func (r *Reader) Error() api.Errno {
	if r == nil {
		return api.OK
	}
	return r.e
}
