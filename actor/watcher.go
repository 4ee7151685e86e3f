package actor

import (
	"millstream/api"
	"millstream/chain"
	"millstream/clocks"
	"millstream/meta"
	"millstream/steps"
	"millstream/unstick"
)

// note is what a watcher saw: the least position of those that read, and its clock then.
type note struct {
	least, clock int64
	has          bool
}

// look is a machine that looks once, by what was noted.
type look struct {
	run     steps.Flow
	l       api.Log
	timeout int64
	now     int64
	note    note
	sub     int
	least   int64
	mends   *unstick.Unstick
}

// Next is the next access.
func (k *look) Next() (api.Access, bool) { return k.run.Next() }

// Take tells what the access told.
func (k *look) Take(x api.Answer) { k.run.Take(x) }

// Tick tells the clock.
func (k *look) Tick(now int64) { k.now = now }

// load asks for the position of the next one that reads.
func (k *look) load() {
	if k.sub == k.l.Subs {
		k.judge()
		return
	}
	k.run.Ask(steps.Load8(meta.SubAt(k.l, k.sub)), func(x api.Answer) {
		if v := int64(x.V); k.sub == 0 || v < k.least {
			k.least = v
		}
		k.sub++
		k.load()
	})
}

// judge notes a position that moved on; where it stood still for too long, it is mended.
func (k *look) judge() {
	if !k.note.has || k.least != k.note.least {
		k.note = note{least: k.least, clock: k.now, has: true}
		return
	}
	if clocks.IsBehind(k.note.clock, k.now, k.timeout) {
		k.note.clock = k.now
		k.mends = unstick.New(k.l, k.least)
		k.run.Over(k.mends, func() {})
	}
}

// Watcher lets a log go on that stands still.
type Watcher struct {
	looks   *chain.Chain[*look]
	l       api.Log
	timeout int64
	times   int
	clock   int64
	note    note
	bytes   int64
}

// Watch watches a log, so many times.
func Watch(l api.Log, timeout int64, times int) *Watcher {
	w := &Watcher{l: l, timeout: timeout, times: min(times, api.MaxTimes)}
	if meta.Check(l) != api.OK {
		w.times = 0
	}
	w.looks = chain.New(w.more, w.ended)
	return w
}

// more looks once more.
func (w *Watcher) more() (*look, bool) {
	if w.times < 1 {
		return nil, false
	}
	w.times--
	k := &look{l: w.l, timeout: w.timeout, now: w.clock, note: w.note}
	k.load()
	return k, true
}

// ended keeps what was noted, and counts what was made padding.
func (w *Watcher) ended(k *look) {
	w.note = k.note
	if k.mends != nil {
		n, _ := k.mends.Result()
		w.bytes += n
	}
}

// Tick tells the clock.
func (w *Watcher) Tick(now int64) {
	if w != nil {
		w.clock = now
		w.looks.Tick(now)
	}
}

// Next is the next access.
func (w *Watcher) Next() (api.Access, bool) {
	if w == nil {
		return api.Access{}, false
	}
	return w.looks.Next()
}

// Take tells what the access told.
func (w *Watcher) Take(x api.Answer) {
	if w != nil {
		w.looks.Take(x)
	}
}

// Mending is what is mended now.
func (w *Watcher) Mending() (int64, int64, bool) {
	if w == nil {
		return 0, 0, false
	}
	k, ok := w.looks.Now()
	if !ok || k.mends == nil {
		return 0, 0, false
	}
	return k.mends.Mending()
}

// Bytes are how many were made padding so far.
func (w *Watcher) Bytes() int64 {
	if w == nil {
		return 0
	}
	return w.bytes
}
