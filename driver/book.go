package driver

import (
	"cmp"
	"maps"
	"slices"

	"millstream/api"
	"millstream/clocks"
	"millstream/command"
)

// mostEntries is how many entries a book may have.
const mostEntries = 32

// Book is what clients have.
type Book struct {
	entries map[api.Entry]struct{}
	clients map[int64]int64
}

// NewBook has nothing.
func NewBook() *Book {
	return &Book{entries: map[api.Entry]struct{}{}, clients: map[int64]int64{}}
}

// Do does a command.
func (b *Book) Do(c api.Command, now int64) api.Errno {
	if b == nil || b.entries == nil {
		return api.ErrArg
	}
	if command.Check(c) != api.OK || c.Kind == api.Done || c.Kind == api.Failed {
		return api.ErrForm
	}
	b.clients[c.Client] = now
	x := api.Entry{Client: c.Client, Stream: c.Stream, Session: c.Session}
	switch c.Kind {
	case api.AddPub:
		x.Pub = true
		return b.add(x)
	case api.AddSub:
		return b.add(x)
	case api.Remove:
		return b.remove(x)
	}
	return api.OK
}

// add adds an entry, once.
func (b *Book) add(x api.Entry) api.Errno {
	if _, ok := b.entries[x]; !ok && len(b.entries) >= mostEntries {
		return api.ErrMany
	}
	b.entries[x] = struct{}{}
	return api.OK
}

// remove lets a publication and a subscription go.
func (b *Book) remove(x api.Entry) api.Errno {
	before := len(b.entries)
	delete(b.entries, x)
	x.Pub = true
	delete(b.entries, x)
	if len(b.entries) == before {
		return api.ErrArg
	}
	return api.OK
}

// Late lets those go that are late.
func (b *Book) Late(now, timeout int64) []int64 {
	if b == nil {
		return nil
	}
	var late []int64
	for client, then := range b.clients {
		if clocks.IsBehind(then, now, timeout) {
			late = append(late, client)
		}
	}
	slices.Sort(late)
	for _, client := range late {
		delete(b.clients, client)
	}
	maps.DeleteFunc(b.entries, func(x api.Entry, _ struct{}) bool {
		_, gone := slices.BinarySearch(late, x.Client)
		return gone
	})
	return late
}

// Entries are all, in order.
func (b *Book) Entries() []api.Entry {
	if b == nil {
		return nil
	}
	return slices.SortedFunc(maps.Keys(b.entries), func(x, y api.Entry) int {
		return cmp.Or(cmp.Compare(x.Client, y.Client), cmp.Compare(x.Stream, y.Stream), cmp.Compare(x.Session, y.Session), cmp.Compare(rank(x), rank(y)))
	})
}

// rank puts publications ahead of subscriptions.
func rank(x api.Entry) int {
	if x.Pub {
		return 0
	}
	return 1
}

// Clients are all, in order.
func (b *Book) Clients() []int64 {
	if b == nil {
		return nil
	}
	return slices.Sorted(maps.Keys(b.clients))
}
