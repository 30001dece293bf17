package vault

import (
	"moothill/inst"
	"moothill/log"
	"moothill/wire"
)

// The kinds of records.
const (
	head byte = 1 + iota
	state
	entry
	end
)

// mostEntry is more than an entry's frame has: its longest footprint, and some 35 bytes.
const mostEntry = 128

// nextHead is the head's record of the picture that would be drawn.
func (v *Vault) nextHead() []byte {
	return new(wire.Out).Byte(head).Short(v.generation + 1).Bytes()
}

// records are records of a kind.
func records[T interface{ Put(*wire.Out) }](kind byte, l []T) [][]byte {
	var all [][]byte
	for _, x := range l {
		o := new(wire.Out).Byte(kind)
		x.Put(o)
		all = append(all, o.Bytes())
	}
	return all
}

// frames are records' frames.
func frames(l [][]byte) []byte {
	// No error: the records of a vault are far shorter than records may be.
	b, _ := log.Join(l...)
	return b
}

// sizeOf is how many bytes a state's frame has.
func sizeOf(x inst.Inst) int {
	return len(frames(records(state, []inst.Inst{x})))
}

// span bounds how many bytes some records have. To count them at each Write would be to go through all that is known.
type span struct {
	least, most int
}

// exactly is the span of bytes that were counted.
func exactly(n int) span {
	return span{least: n, most: n}
}

// add is told of bytes more, or fewer.
func (s *span) add(n int) {
	s.least += n
	s.most += n
}

// mayGrow is told that an entry may have come, or grown: entries never have fewer bytes than they had.
func (s *span) mayGrow() {
	s.most += mostEntry
}
