package actor

import (
	"slices"

	"millstream/api"
	"millstream/chain"
	"millstream/claim"
	"millstream/fresh"
	"millstream/offer"
	"millstream/steps"
)

// act is a machine that does an act.
type act interface {
	steps.Machine
	Result() (int64, api.Errno)
	Slot() (api.Slot, bool)
}

// Writer does acts.
type Writer struct {
	acts  *chain.Chain[act]
	l     api.Log
	ops   []api.Op
	tries int
	begun int
	done  []api.Sent
}

// Write does acts, one behind the other.
func Write(l api.Log, ops []api.Op, tries int) *Writer {
	w := &Writer{l: l, ops: fresh.Ops(ops[:min(len(ops), api.MaxOps)]), tries: max(tries, 0)}
	w.acts = chain.New(w.more, w.ended)
	return w
}

// more begins the act in hand.
func (w *Writer) more() (act, bool) {
	if len(w.done) >= len(w.ops) {
		return nil, false
	}
	w.begun++
	op := w.ops[len(w.done)]
	switch op.Kind {
	case api.OpOffer:
		return offer.New(w.l, op.Data), true
	case api.OpCommit, api.OpAbort:
		return claim.New(w.l, op.Data, op.Kind == api.OpCommit), true
	}
	// A claim that isn't there ends with ErrArg.
	return (*claim.Claim)(nil), true
}

// ended tells how the act in hand ended, or leaves it in hand for another try.
func (w *Writer) ended(a act) {
	end, e := a.Result()
	if (e == api.ErrFull || e == api.ErrAdmin) && w.tries > 0 {
		w.tries--
		return
	}
	slot, has := a.Slot()
	w.done = append(w.done, api.Sent{End: end, Error: e, Tries: w.begun, Slot: slot, Has: has})
	w.begun = 0
}

// Next is the next access.
func (w *Writer) Next() (api.Access, bool) {
	if w == nil {
		return api.Access{}, false
	}
	return w.acts.Next()
}

// Take tells what the access told.
func (w *Writer) Take(x api.Answer) {
	if w != nil {
		w.acts.Take(x)
	}
}

// Done is how each act ended.
func (w *Writer) Done() []api.Sent {
	if w == nil {
		return nil
	}
	return slices.Clone(w.done)
}

// Slot is the slot of what it does now.
func (w *Writer) Slot() (api.Slot, bool) {
	if w == nil {
		return api.Slot{}, false
	}
	a, ok := w.acts.Now()
	if !ok {
		return api.Slot{}, false
	}
	return a.Slot()
}
