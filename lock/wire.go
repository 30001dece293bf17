package lock

import (
	"maps"
	"slices"

	"moothill/api"
	"moothill/cmd"
	"moothill/path"
	"moothill/wire"
)

// lastStamp is the greatest one that is taken.
const lastStamp = 1<<62 - 1

// Put writes a book.
func (b *Book) Put(o *wire.Out) {
	l := b.List()
	o.Short(uint64(len(l)))
	for _, e := range l {
		e.put(o)
	}
	changed := slices.SortedFunc(maps.Keys(b.counters), path.Compare)
	o.Short(uint64(len(changed)))
	for _, p := range changed {
		o.Text(p).Fixed(b.counters[p])
	}
}

// put writes an entry.
func (e Entry) put(o *wire.Out) {
	o.Text(e.Path)
	o.Fixed(e.Session.Num).Text(e.Session.Foot)
	o.Byte(byte(e.Mode)).Fixed(e.N).Short(uint64(e.Stamp))
}

// Take reads a book.
func Take(in *wire.In, first uint64) *Book {
	b := New(first)
	ok := b.takeEntries(in)
	ok = b.takeCounters(in) && ok
	if !ok {
		// Not told ahead of this, as an error of a part, however far behind, is named first.
		in.Fail(api.ErrForm)
	}
	if in.Failed() {
		return New(first)
	}
	return b
}

// takeEntries takes a book's entries, and tells whether all are right, if the input doesn't fail.
func (b *Book) takeEntries(in *wire.In) bool {
	ok := true
	// An empty one is ahead of all that are right.
	var last Entry
	for range takeCount(in) {
		e := takeEntry(in)
		if in.Failed() {
			break
		}
		ok = ok && e.right() && !b.has(e.Path, e.Session) && compare(last, e) < 0
		b.set(e)
		last = e
	}
	return ok
}

// takeCount is the count that is there, of things of which each has a byte at least.
func takeCount(in *wire.In) uint64 {
	return in.Short(uint64(in.Left()))
}

// takeEntry is the entry that is there.
func takeEntry(in *wire.In) Entry {
	var e Entry
	e.Path = in.Text(api.MaxPath)
	e.Session = cmd.Session{Num: in.Fixed(), Foot: in.Text(api.MaxPath)}
	e.Mode = int(in.Byte())
	e.N = in.Fixed()
	e.Stamp = int(in.Short(lastStamp))
	return e
}

// right tells whether a book may have an entry.
func (e Entry) right() bool {
	return right(e.Path, e.Mode) && e.Stamp > 0
}

// takeCounters takes a book's counters, and tells whether all are right, if the input doesn't fail.
func (b *Book) takeCounters(in *wire.In) bool {
	ok := true
	// An empty text is ahead of all paths.
	var last string
	for range takeCount(in) {
		p := in.Text(api.MaxPath)
		c := in.Fixed()
		if in.Failed() {
			break
		}
		ok = ok && path.Right(p) && path.Compare(last, p) < 0 && c != b.first
		b.setCounter(p, c)
		last = p
	}
	return ok
}
