// Package fresh copies what is handed in and out, so that nobody shares it.
package fresh

import (
	"slices"

	"millstream/api"
)

// Bytes is a copy of bytes.
func Bytes(b []byte) []byte { return append([]byte(nil), b...) }

// List is a copy of a list, each of its items copied by one.
func List[T any](l []T, one func(T) T) []T {
	r := make([]T, 0, len(l))
	for _, x := range l {
		r = append(r, one(x))
	}
	return r
}

// Access is a copy of an access.
func Access(a api.Access) api.Access {
	a.B = Bytes(a.B)
	return a
}

// Answer is a copy of an answer.
func Answer(x api.Answer) api.Answer {
	x.B = Bytes(x.B)
	return x
}

// Event is a copy of an event.
func Event(x api.Event) api.Event {
	x.Access, x.Answer = Access(x.Access), Answer(x.Answer)
	return x
}

// Message is a copy of a message.
func Message(m api.Message) api.Message {
	m.Data = Bytes(m.Data)
	return m
}

// Messages is a copy of messages.
func Messages(l []api.Message) []api.Message { return List(l, Message) }

// Op is a copy of an act.
func Op(o api.Op) api.Op {
	o.Data = Bytes(o.Data)
	return o
}

// Ops is a copy of a writer's acts.
func Ops(l []api.Op) []api.Op { return List(l, Op) }

// Setup is a copy of a setup.
func Setup(s api.Setup) api.Setup {
	s.Writers = List(s.Writers, Ops)
	return s
}

// Script is a copy of a script.
func Script(x api.Script) api.Script {
	return api.Script{Setup: Setup(x.Setup), Picks: slices.Clone(x.Picks)}
}
