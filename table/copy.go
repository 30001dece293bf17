package table

import (
	"moothill/api"
	"moothill/lease"
	"moothill/lock"
	"moothill/wire"
)

// Copy is another table, the same.
func (t *Table) Copy(first uint64) *Table {
	o := new(wire.Out)
	t.sessions.Put(o)
	return &Table{
		sessions: lease.Take(wire.NewIn(o.Bytes())),
		locks:    lock.Take(wire.NewIn(t.locksBytes(first)), first),
	}
}

// locksBytes are the bytes of a table's locks, as a book with a first number has them.
func (t *Table) locksBytes(first uint64) []byte {
	o, all := new(wire.Out), new(wire.Out)
	putEntries(o, t.locks.List())
	t.locks.Put(all)
	// Behind the entries, counters are left in the bytes alone.
	in := wire.NewIn(all.Bytes()[len(o.Bytes()):])
	putCounters(o, takeCounters(in, first))
	return o.Bytes()
}

// putEntries writes entries as a book does.
func putEntries(o *wire.Out, l []lock.Entry) {
	o.Short(uint64(len(l)))
	for _, e := range l {
		o.Text(e.Path)
		o.Fixed(e.Session.Num).Text(e.Session.Foot)
		o.Byte(byte(e.Mode)).Fixed(e.N).Short(uint64(e.Stamp))
	}
}

// counter is a path's.
type counter struct {
	path string
	n    uint64
}

// takeCounters are the counters that are there, but for those that are a first number: with that they aren't changed ones.
func takeCounters(in *wire.In, first uint64) []counter {
	var l []counter
	for range in.Short(uint64(in.Left())) {
		c := counter{path: in.Text(api.MaxPath), n: in.Fixed()}
		if c.n != first {
			l = append(l, c)
		}
	}
	return l
}

// putCounters writes counters as a book does.
func putCounters(o *wire.Out, l []counter) {
	o.Short(uint64(len(l)))
	for _, c := range l {
		o.Text(c.path).Fixed(c.n)
	}
}
