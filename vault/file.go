package vault

import (
	"math"

	"moothill/api"
	"moothill/disk"
	"moothill/index"
	"moothill/inst"
	"moothill/log"
	"moothill/wire"
)

// files is how many a disk has.
const files = 2

// file is what one of a disk's files has.
type file struct {
	// The vault whose current file it is, if it is whole.
	*Vault
	whole bool
	// good is how many bytes stand ahead of what is torn.
	good int
}

// read is what a file has.
func read(d *disk.Disk, n int) file {
	f := file{Vault: empty(d, n)}
	l, _ := log.Scan(d.Read(n))
	for _, r := range l {
		if !f.take(r) {
			break
		}
		f.good += log.Size(r)
	}
	return f
}

// take takes in the next record, if it is one that may stand there.
func (f *file) take(record []byte) bool {
	begun := f.good > 0
	in := wire.NewIn(record)
	switch in.Byte() {
	case head:
		g := in.Short(math.MaxUint64)
		if begun || in.End() != api.OK {
			return false
		}
		f.generation = g
	case state:
		x := inst.Take(in)
		if !begun || in.End() != api.OK {
			return false
		}
		f.know(x)
	case entry:
		e := index.Take(in)
		if !begun || f.whole || in.End() != api.OK {
			return false
		}
		f.hear(e)
	case end:
		if !begun || f.whole || in.End() != api.OK {
			return false
		}
		f.whole = true
	default:
		return false
	}
	return true
}

// choose is the current one of two files, if one is whole.
func choose(a, b file) (file, bool) {
	if !a.whole || b.whole && b.Generation() > a.Generation() {
		a = b
	}
	return a, a.whole
}

// tidy trims away all that isn't the current file's log.
func (f file) tidy() api.Errno {
	if e := trim(f.disk, f.other(), 0); e != api.OK {
		return e
	}
	return trim(f.disk, f.current, f.good)
}

// put appends bytes to a file, and has them safe.
func put(d *disk.Disk, f int, b []byte) api.Errno {
	if e := d.Append(f, b); e != api.OK {
		return e
	}
	return d.Sync(f)
}

// trim leaves a file so many of its first bytes, if it has more.
func trim(d *disk.Disk, f int, n int) api.Errno {
	if len(d.Read(f)) <= n {
		return api.OK
	}
	return d.Trim(f, n)
}
