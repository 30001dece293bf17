package vault_test

import (
	"bytes"
	"encoding/binary"
	"maps"
	"math"
	"math/rand"
	"regexp"
	"slices"
	"strings"
	"testing"
	"unsafe"

	"moothill/api"
	"moothill/attr"
	"moothill/clash"
	"moothill/cmd"
	"moothill/disk"
	"moothill/index"
	"moothill/inst"
	"moothill/log"
	"moothill/mark"
	"moothill/vault"
	"moothill/wire"
)

const (
	slots = 1024
	// least and most are the edges of a disk's size.
	least = 1 << 10
	most  = 1 << 22
	// powerful is power for more than any test does.
	powerful = math.MaxInt
)

// deps are what is covered of each replica.
type deps = [api.MaxReplicas]int

// keep is what is kept of both files behind a crash.
type keep = [2]int

// Records' frames, written out by the chapter's table.

func framed(parts ...[]byte) []byte {
	b, e := log.Frame(slices.Concat(parts...))
	if e != api.OK {
		panic(e)
	}
	return b
}

func headed(generation uint64) []byte {
	return framed([]byte{1}, binary.AppendUvarint(nil, generation))
}

func stated(x inst.Inst) []byte {
	return framed([]byte{2}, x.Bytes())
}

func statedAll(l ...inst.Inst) []byte {
	var b []byte
	for _, x := range l {
		b = append(b, stated(x)...)
	}
	return b
}

func entered(e index.Entry) []byte {
	o := new(wire.Out)
	e.Put(o)
	return framed([]byte{3}, o.Bytes())
}

func ended() []byte {
	return framed([]byte{4})
}

// file are the bytes of a whole file.
func file(generation uint64, picture []inst.Inst, entries []index.Entry, behind ...inst.Inst) []byte {
	b := append(headed(generation), statedAll(picture...)...)
	for _, e := range entries {
		b = append(b, entered(e)...)
	}
	return slices.Concat(b, ended(), statedAll(behind...))
}

// picture are the bytes of a vault's picture, made of what it tells.
func picture(v *vault.Vault) []byte {
	return file(v.Generation()+1, v.List(), v.Entries())
}

// at is the instance of a replica's slot.
func at(replica, slot int) mark.ID {
	return mark.ID{Replica: replica, Slot: slot}
}

// closing is the Close of a session with a footprint.
func closing(num uint64, foot string) cmd.Cmd {
	return cmd.Cmd{Kind: cmd.Close, Session: cmd.Session{Num: num, Foot: foot}, Request: 1}
}

// acquiring is the Acquire of a path.
func acquiring(num uint64, path string) cmd.Cmd {
	return cmd.Cmd{Kind: cmd.Acquire, Session: cmd.Session{Num: num, Foot: "z"}, Request: 1, Path: path, Mode: cmd.Exclusive}
}

// promised is a state of which just a ballot is known.
func promised(id mark.ID, b mark.Ballot) inst.Inst {
	x := inst.New(id)
	x.Bal = b
	return x
}

// valued is a state with a value, by a ballot.
func valued(id mark.ID, status int, b mark.Ballot, c cmd.Cmd, seq int) inst.Inst {
	x := promised(id, b)
	x.Status, x.Vote, x.Cmd, x.Attr = status, b, c, attr.Attr{Seq: seq}.Own(id)
	return x
}

// entry is an entry, written shortly.
func entry(foot string, num uint64, seq int, d deps) index.Entry {
	return index.Entry{Key: clash.Key{Foot: foot, Num: num}, Attr: attr.Attr{Seq: seq, Deps: d}}
}

// some are right states of several instances, by their names.
func some() []inst.Inst {
	same := valued(at(0, 3), inst.Pre, 0, acquiring(1, "a/b"), 5)
	same.Same = true
	return []inst.Inst{
		same,
		valued(at(0, 4), inst.Committed, 9, closing(1, "a"), 8),
		promised(at(2, 0), 17),
		valued(at(2, 7), inst.Accepted, 10, acquiring(2, "a/c"), 6),
		valued(at(6, 1023), inst.Committed, 0, cmd.Cmd{}, 1),
	}
}

// someEntries is what some has in an index.
func someEntries() []index.Entry {
	return []index.Entry{entry("a", 1, 8, deps{0: 5}), entry("a/b", 1, 5, deps{0: 4}), entry("a/c", 2, 6, deps{2: 8})}
}

// wrongIDs gives names that no instance has.
func wrongIDs() []mark.ID {
	return []mark.ID{{Replica: -1}, {Replica: 7}, {Slot: -1}, {Slot: slots}, {Replica: math.MaxInt, Slot: math.MaxInt}, {Replica: math.MinInt, Slot: math.MinInt}, {Replica: 1 << 32, Slot: 1}, {Replica: 1, Slot: 1 << 32}}
}

// wrongs gives states that aren't right.
func wrongs() []inst.Inst {
	l := []inst.Inst{
		promised(at(1, 1), 1), promised(at(1, 1), 15), promised(at(1, 1), math.MaxUint32),
		valued(at(1, 1), 4, 9, cmd.Cmd{}, 0), valued(at(1, 1), -1, 9, cmd.Cmd{}, 0), valued(at(1, 1), inst.None, 9, cmd.Cmd{}, 0),
		valued(at(1, 1), inst.Pre, 9, cmd.Cmd{Kind: 9}, 0), valued(at(1, 1), inst.Pre, 9, closing(1, "A"), 0), valued(at(1, 1), inst.Pre, 9, closing(1, ""), 0),
		valued(at(1, 1), inst.Pre, 9, cmd.Cmd{}, -1), valued(at(1, 1), inst.Pre, 9, cmd.Cmd{}, 1<<30+1),
	}
	for _, id := range wrongIDs() {
		l = append(l, inst.New(id), valued(id, inst.Committed, 9, cmd.Cmd{}, 0))
	}
	same, late, covers := valued(at(1, 1), inst.Accepted, 0, cmd.Cmd{}, 0), promised(at(1, 1), 9), valued(at(1, 1), inst.Pre, 9, cmd.Cmd{}, 0)
	same.Same, late.Vote, covers.Attr.Deps[1] = true, 9, 2
	return append(l, same, late, covers)
}

// fresh is a new disk.
func fresh(t testing.TB, size int) *disk.Disk {
	t.Helper()
	d, e := disk.New(size)
	if e != api.OK {
		t.Fatal(size, e)
	}
	return d
}

// with is a disk with some bytes in its files, all safe.
func with(t testing.TB, size int, a, b []byte) *disk.Disk {
	t.Helper()
	d := fresh(t, size)
	for f, x := range [][]byte{a, b} {
		is(t, d.Append(f, x), api.OK)
		is(t, d.Sync(f), api.OK)
	}
	return d
}

// is tells whether a call answered what it should.
func is(t testing.TB, got, want api.Errno) {
	t.Helper()
	if got != want {
		t.Errorf("%d, not %d", got, want)
	}
}

// opened is the vault of a disk.
func opened(t testing.TB, d *disk.Disk) *vault.Vault {
	t.Helper()
	v, e := vault.Open(d)
	if e != api.OK || v == nil {
		t.Fatal(v, e)
	}
	return v
}

// refused tells whether a disk isn't opened, by an error.
func refused(t testing.TB, d *disk.Disk, want api.Errno) {
	t.Helper()
	if v, e := vault.Open(d); v != nil || e != want {
		t.Error(v, e, want)
	}
}

// writes writes states that there is room and power for.
func writes(t testing.TB, v *vault.Vault, l ...inst.Inst) {
	t.Helper()
	is(t, v.Write(l...), api.OK)
}

// has tells whether a vault has just these states, by their names.
func has(t testing.TB, v *vault.Vault, l ...inst.Inst) {
	t.Helper()
	if got := v.List(); !slices.Equal(got, l) {
		t.Errorf("%v, not %v", got, l)
	}
	var next [api.MaxReplicas]int
	for _, x := range l {
		if got := v.Get(x.ID); got != x {
			t.Errorf("%v, not %v", got, x)
		}
		next[x.ID.Replica] = max(next[x.ID.Replica], x.ID.Slot+1)
	}
	for r, n := range next {
		if got := v.Slots(r); got != n {
			t.Errorf("%d of %d, not %d", got, r, n)
		}
	}
}

// heard tells whether a vault's index has just these entries.
func heard(t testing.TB, v *vault.Vault, l ...index.Entry) {
	t.Helper()
	if got := v.Entries(); !slices.Equal(got, l) {
		t.Errorf("%v, not %v", got, l)
	}
	x := index.New()
	for _, e := range l {
		is(t, x.Add(e), api.OK)
	}
	for _, c := range []cmd.Cmd{{}, closing(1, "a"), acquiring(9, "a/b/c"), acquiring(2, "x")} {
		for _, id := range append(wrongIDs(), at(0, 0), at(3, 9), at(6, 1023)) {
			if got, want := v.Ahead(c, id), x.Ask(c, id); got != want {
				t.Errorf("%v %v: %v, not %v", c, id, got, want)
			}
		}
	}
}

// generation tells whether a vault has a generation.
func generation(t testing.TB, v *vault.Vault, want uint64) {
	t.Helper()
	if got := v.Generation(); got != want {
		t.Errorf("generation %d, not %d", got, want)
	}
}

// holds tells whether a disk's files have just these bytes, all safe.
func holds(t testing.TB, d *disk.Disk, a, b []byte) {
	t.Helper()
	for f, want := range [][]byte{a, b} {
		if got := d.Read(f); !bytes.Equal(got, want) || d.Safe(f) != len(want) {
			t.Errorf("file %d: %x (%d are safe), not %x", f, got, d.Safe(f), want)
		}
	}
}

// spends tells whether a call, of the vault of a copy of a disk, spends just so many units.
func spends(t testing.TB, d *disk.Disk, units int, call func(v *vault.Vault) api.Errno) {
	t.Helper()
	for _, short := range []int{0, 1} {
		if units < short {
			continue
		}
		c := d.Copy()
		v := opened(t, c)
		c.Arm(units - short)
		want := []api.Errno{api.OK, api.ErrDown}[short]
		if got := call(v); got != want || c.Down() != (short == 1) {
			t.Errorf("%d units: %d, not %d", units-short, got, want)
		}
	}
}

// P15.1: the chapter's example.
func TestExample(t *testing.T) {
	d := fresh(t, least)
	generation(t, opened(t, d), 1)
	v := opened(t, d)
	generation(t, v, 1)
	has(t, v)
	heard(t, v)
}

// P15.1: where no file is whole the file 0 gets the picture of an empty vault, and is synced.
func TestOpenNew(t *testing.T) {
	const written = "\x06\x01\x01\xf1\xcf\x07\xd2" + "\x05\x04\x94\x4b\x06\xd6"
	want := file(1, nil, nil)
	if len(want) != 13 || want[0] != written[0] || want[7] != written[7] {
		t.Errorf("%x", want)
	}
	for _, size := range []int{least, least + 1, 1 << 16, most} {
		d := fresh(t, size)
		v := opened(t, d)
		holds(t, d, want, nil)
		generation(t, v, 1)
		has(t, v)
		heard(t, v)
	}
	for units := range 15 {
		d := fresh(t, least)
		d.Arm(units)
		if units < 14 {
			refused(t, d, api.ErrDown)
			if got := d.Read(0); !bytes.Equal(got, want[:min(units, 13)]) || d.Safe(0) != 0 {
				t.Errorf("%d: %x", units, got)
			}
			continue
		}
		opened(t, d)
		holds(t, d, want, nil)
	}
}

// P15.1: where no file is whole both are trimmed, if they have bytes, each by a unit.
func TestOpenNoneWhole(t *testing.T) {
	torn := file(9, some(), someEntries())
	torn = torn[:len(torn)-1]
	want := file(1, nil, nil)
	for _, x := range []struct {
		a, b  []byte
		trims int
	}{{nil, nil, 0}, {torn, nil, 1}, {nil, torn, 1}, {torn, torn, 2}, {[]byte{0}, []byte{4, 0, 0, 0, 0}, 2}} {
		for units := range x.trims + 15 {
			d := with(t, least, x.a, x.b)
			d.Arm(units)
			if units < x.trims+14 {
				refused(t, d, api.ErrDown)
				continue
			}
			v := opened(t, d)
			holds(t, d, want, nil)
			generation(t, v, 1)
			has(t, v)
			heard(t, v)
		}
	}
	// The file 0 first.
	d := with(t, least, torn, torn)
	d.Arm(1)
	refused(t, d, api.ErrDown)
	holds(t, d, nil, torn)
}

// P15.1: the whole file of the greater generation is the current one, 0, if both are the same.
func TestOpenChooses(t *testing.T) {
	a, b := some()[0], some()[1]
	inA, inB := []index.Entry{someEntries()[1]}, []index.Entry{someEntries()[0]}
	for _, x := range []struct {
		a, b    uint64
		current int
	}{{1, 2, 1}, {2, 1, 0}, {1, 1, 0}, {0, 0, 0}, {0, 1, 1}, {math.MaxUint64, math.MaxUint64 - 1, 0}, {math.MaxUint64 - 1, math.MaxUint64, 1}, {math.MaxUint64, 0, 0}, {1<<63 - 1, 1 << 63, 1}, {127, 128, 1}, {256, 255, 0}, {77, 77, 0}} {
		fileA, fileB := file(x.a, nil, nil, a), file(x.b, []inst.Inst{b}, nil)
		d := with(t, least, fileA, fileB)
		v := opened(t, d)
		if x.current == 0 {
			holds(t, d, fileA, nil)
			has(t, v, a)
			heard(t, v, inA...)
			generation(t, v, x.a)
		} else {
			holds(t, d, nil, fileB)
			has(t, v, b)
			heard(t, v, inB...)
			generation(t, v, x.b)
		}
	}
}

// P15.1: what isn't whole counts for nothing, whatever its generation.
func TestOpenOneWhole(t *testing.T) {
	whole := file(3, some(), nil)
	for _, other := range [][]byte{nil, {0}, headed(9), file(9, some()[:2], nil)[:40], append(headed(9), statedAll(some()...)...), append([]byte{0}, file(9, nil, nil)...), ended(), append(ended(), headed(9)...), append(stated(some()[0]), file(9, nil, nil)...)} {
		for _, first := range []bool{true, false} {
			a, b := whole, other
			if !first {
				a, b = other, whole
			}
			d := with(t, least, a, b)
			trims := min(len(other), 1)
			if trims > 0 {
				c := d.Copy()
				c.Arm(0)
				refused(t, c, api.ErrDown)
			}
			d.Arm(trims)
			v := opened(t, d)
			if first {
				holds(t, d, whole, nil)
			} else {
				holds(t, d, nil, whole)
			}
			generation(t, v, 3)
			has(t, v, some()...)
			heard(t, v, someEntries()...)
		}
	}
}

// P15.1: what is torn behind the current log is trimmed away, behind the other file, and just if there is any.
func TestOpenTorn(t *testing.T) {
	whole := file(3, some()[:2], nil, some()[2:]...)
	last := stated(valued(at(5, 5), inst.Pre, 9, closing(7, "q"), 3))
	spoilt := bytes.Clone(last)
	spoilt[9] ^= 4
	torns := [][]byte{{0}, {0xff}, spoilt, append(spoilt, last...)}
	for n := 1; n < len(last); n++ {
		torns = append(torns, last[:n])
	}
	for _, torn := range torns {
		for _, other := range [][]byte{nil, {7}, file(2, some(), nil)} {
			trims := 1 + min(len(other), 1)
			for units := range trims + 1 {
				d := with(t, least, append(bytes.Clone(whole), torn...), other)
				d.Arm(units)
				if units < trims {
					refused(t, d, api.ErrDown)
					if units == 1 {
						holds(t, d, append(bytes.Clone(whole), torn...), nil)
					}
					continue
				}
				v := opened(t, d)
				holds(t, d, whole, nil)
				generation(t, v, 3)
				has(t, v, some()...)
				heard(t, v, someEntries()...)
			}
		}
	}
}

// P15.1: where there is nothing to trim and nothing to write the disk is asked for nothing: it may be down, or full.
func TestOpenAsksForNothing(t *testing.T) {
	whole := file(3, some(), nil)
	d := with(t, least, nil, whole)
	d.Arm(0)
	is(t, d.Sync(0), api.ErrDown)
	v := opened(t, d)
	has(t, v, some()...)
	holds(t, d, nil, whole)
	is(t, v.Write(promised(at(1, 1), 9)), api.ErrDown)
	has(t, v, some()...)

	d = fresh(t, least)
	opened(t, d)
	var l []inst.Inst
	for n := 0; d.Left() >= 12; n++ {
		l = append(l, promised(at(0, n), 9))
		is(t, d.Append(0, stated(l[n])), api.OK)
	}
	has(t, opened(t, d), l...)
}

// P15.1: bytes that aren't safe count as the others do, and stay as they are.
func TestOpenUnsafe(t *testing.T) {
	d := fresh(t, least)
	opened(t, d)
	is(t, d.Append(0, statedAll(some()...)), api.OK)
	is(t, d.Append(0, []byte{9}), api.OK)
	v := opened(t, d)
	has(t, v, some()...)
	if d.Safe(0) != 13 || !bytes.Equal(d.Read(0), file(1, nil, nil, some()...)) {
		t.Error(d.Safe(0), d.Read(0))
	}
}

// P15.1: of an instance the last state counts, whatever came ahead of it; what each had is in the index.
func TestOpenLastStates(t *testing.T) {
	id := at(1, 4)
	pre := valued(id, inst.Pre, 9, closing(1, "a"), 3)
	com := valued(id, inst.Committed, 9, closing(2, "b"), 7)
	bare := promised(id, 10)
	a, b := entry("a", 1, 3, deps{1: 5}), entry("b", 2, 7, deps{1: 5})
	for _, x := range []struct {
		file []byte
		want []inst.Inst
		in   []index.Entry
	}{
		{file(1, []inst.Inst{pre}, nil, com), []inst.Inst{com}, []index.Entry{a, b}},
		{file(1, []inst.Inst{com}, nil, pre), []inst.Inst{pre}, []index.Entry{a, b}},
		{file(1, nil, nil, com, pre, bare), []inst.Inst{bare}, []index.Entry{a, b}},
		{file(1, []inst.Inst{pre, com}, nil), []inst.Inst{com}, []index.Entry{a, b}},
		{file(1, []inst.Inst{com, pre}, nil, pre), []inst.Inst{pre}, []index.Entry{a, b}},
		{file(1, nil, []index.Entry{entry("a", 1, 4, deps{1: 2, 3: 9}), entry("a", 1, 2, deps{0: 1})}, pre), []inst.Inst{pre}, []index.Entry{entry("a", 1, 4, deps{0: 1, 1: 5, 3: 9})}},
		{file(1, nil, []index.Entry{b, a}), nil, []index.Entry{a, b}},
		// A state with nothing known is one, too.
		{file(1, nil, nil, inst.New(id)), []inst.Inst{inst.New(id)}, nil},
		{file(1, []inst.Inst{inst.New(id)}, nil), []inst.Inst{inst.New(id)}, nil},
		{file(1, nil, nil, inst.Inst{}), []inst.Inst{{}}, nil},
		{file(1, []inst.Inst{pre, bare}, nil, inst.New(id)), []inst.Inst{inst.New(id)}, []index.Entry{a}},
		{file(1, []inst.Inst{inst.New(id)}, nil, bare), []inst.Inst{bare}, nil},
	} {
		v := opened(t, with(t, least, x.file, nil))
		has(t, v, x.want...)
		heard(t, v, x.in...)
	}
}

// P15.1: states and entries may stand in a picture in any order; it ends with the end.
func TestOpenMixed(t *testing.T) {
	a, b, c := some()[0], some()[1], some()[3]
	e := entry("q", 9, 1, deps{6: 6})
	in := append(someEntries(), e)
	b1 := slices.Concat(headed(5), entered(e), stated(a), entered(e), stated(b), ended(), stated(c))
	v := opened(t, with(t, least, b1, nil))
	has(t, v, a, b, c)
	heard(t, v, in...)
	generation(t, v, 5)
}

// badRecords are records of which none is a head, a state, an entry or an end.
func badRecords() [][]byte {
	x, o := some()[0].Bytes(), new(wire.Out)
	someEntries()[0].Put(o)
	e := o.Bytes()
	l := [][]byte{
		{}, {0}, {5}, {255}, {5, 1}, {0, 1},
		{1}, {1, 0x80}, {1, 0x80, 0}, {1, 1, 0}, append([]byte{1}, bytes.Repeat([]byte{0xff}, 10)...), append(append([]byte{1}, bytes.Repeat([]byte{0xff}, 9)...), 2),
		{2}, append(append([]byte{2}, x...), 0), append([]byte{2}, x[:len(x)-1]...), {2, 7, 0, 0, 0}, {2, 0, 0, 1, 0}, {2, 0, 0, 0, 4}, {2, 0, 0, 0, 2, 0, 1, 0, 0, 0, 0, 0, 0, 0, 0, 0}, {2, 0, 0x80, 8, 0, 0},
		{3}, append(append([]byte{3}, e...), 0), append([]byte{3}, e[:len(e)-1]...), append([]byte{3, 1, 'A'}, make([]byte, 16)...), append([]byte{3, 0}, make([]byte, 16)...),
		{4, 0}, {4, 4},
	}
	return append(l, append([]byte{2}, e...), append([]byte{3}, x...), x, e)
}

// P15.1: a record that is none of these ends what is scanned: behind the picture it is torn, in it the file isn't whole.
func TestOpenBadRecords(t *testing.T) {
	a, b := some()[0], some()[1]
	for _, bad := range badRecords() {
		whole := file(4, []inst.Inst{a}, nil)
		d := with(t, least, slices.Concat(whole, framed(bad), stated(b)), nil)
		v := opened(t, d)
		has(t, v, a)
		heard(t, v, someEntries()[1])
		generation(t, v, 4)
		holds(t, d, whole, nil)
		for _, broken := range [][]byte{
			append(framed(bad), whole...),
			slices.Concat(headed(4), framed(bad), stated(a), ended()),
			slices.Concat(headed(4), stated(a), framed(bad), ended()),
			slices.Concat(headed(4), stated(a), framed(bad), file(4, nil, nil)),
		} {
			d := with(t, least, broken, nil)
			v := opened(t, d)
			has(t, v)
			heard(t, v)
			holds(t, d, file(1, nil, nil), nil)
		}
	}
}

// P15.1: so does a record of these where it doesn't belong: behind the picture all but a state, within it a head, ahead of it all but a head.
func TestOpenMisplacedRecords(t *testing.T) {
	a, b := some()[0], some()[1]
	whole := file(4, []inst.Inst{a}, nil, b)
	for _, stray := range [][]byte{headed(5), headed(4), ended(), entered(someEntries()[2]), file(9, nil, nil)} {
		d := with(t, least, slices.Concat(whole, stray, stated(some()[3])), nil)
		v := opened(t, d)
		has(t, v, a, b)
		heard(t, v, someEntries()[:2]...)
		generation(t, v, 4)
		holds(t, d, whole, nil)
	}
	for _, broken := range [][]byte{
		append(stated(a), whole...), append(entered(someEntries()[0]), whole...), append(ended(), whole...),
		append(headed(4), whole...), slices.Concat(headed(3), stated(a), whole),
		slices.Concat(headed(4), stated(a), entered(someEntries()[0])), headed(4), ended(), stated(a),
	} {
		d := with(t, least, broken, nil)
		v := opened(t, d)
		has(t, v)
		heard(t, v)
		generation(t, v, 1)
		holds(t, d, file(1, nil, nil), nil)
	}
}

// scanned is what a file has, by the chapter's words.
type scanned struct {
	whole      bool
	good       int
	generation uint64
	states     map[mark.ID]inst.Inst
	index      *index.Index
}

// letter is a letter for a record: of none of the kinds "?".
func letter(r []byte) string {
	if len(r) == 0 {
		return "?"
	}
	rest := r[1:]
	switch r[0] {
	case 1:
		if _, n := binary.Uvarint(rest); n > 0 && n == len(rest) && (n == 1 || rest[n-1] != 0) {
			return "h"
		}
	case 2:
		if _, e := inst.Parse(rest); e == api.OK {
			return "s"
		}
	case 3:
		in := wire.NewIn(rest)
		if index.Take(in); in.End() == api.OK {
			return "e"
		}
	case 4:
		if len(rest) == 0 {
			return "."
		}
	}
	return "?"
}

var whole = regexp.MustCompile(`^h[se]*\.s*`)

// scan scans a file.
func scan(b []byte) scanned {
	l, _ := log.Scan(b)
	letters := ""
	for _, r := range l {
		letters += letter(r)
	}
	s := scanned{states: map[mark.ID]inst.Inst{}, index: index.New()}
	s.whole = whole.MatchString(letters)
	for _, r := range l[:len(whole.FindString(letters))] {
		s.good += log.Size(r)
		switch letter(r) {
		case "h":
			s.generation, _ = binary.Uvarint(r[1:])
		case "s":
			x, _ := inst.Parse(r[1:])
			s.states[x.ID] = x
			s.index.Note(x.Cmd, x.ID, x.Attr.Seq)
		case "e":
			s.index.Add(index.Take(wire.NewIn(r[1:])))
		}
	}
	return s
}

// listed are states by their names.
func listed(states map[mark.ID]inst.Inst) []inst.Inst {
	return sorted(slices.Collect(maps.Values(states))...)
}

// sorted are states by their names.
func sorted(l ...inst.Inst) []inst.Inst {
	slices.SortFunc(l, func(a, b inst.Inst) int { return a.ID.Compare(b.ID) })
	return l
}

// holdOpen holds what is opened of two files against the chapter's words, and tells the vault.
func holdOpen(t testing.TB, a, b []byte) *vault.Vault {
	t.Helper()
	d := with(t, most, a, b)
	v := opened(t, d)
	s, o := scan(a), scan(b)
	switch {
	case !s.whole && !o.whole:
		holds(t, d, file(1, nil, nil), nil)
		generation(t, v, 1)
		has(t, v)
		heard(t, v)
		return v
	case !s.whole, o.whole && o.generation > s.generation:
		s = o
		holds(t, d, nil, b[:s.good])
	default:
		holds(t, d, a[:s.good], nil)
	}
	generation(t, v, s.generation)
	has(t, v, listed(s.states)...)
	heard(t, v, s.index.List()...)
	return v
}

// randomFile are records that are likely a whole file, or near to one.
func randomFile(random *rand.Rand) []byte {
	kinds := []func() []byte{
		func() []byte { return stated(randomState(random)) },
		func() []byte { return stated(randomState(random)) },
		func() []byte { return entered(someEntries()[random.Intn(3)]) },
		func() []byte { return headed(uint64(random.Intn(4))) },
		ended,
		func() []byte { return framed(badRecords()[random.Intn(len(badRecords()))]) },
	}
	some := func(kinds []func() []byte) []byte {
		var b []byte
		for range random.Intn(5) {
			b = append(b, kinds[random.Intn(len(kinds))]()...)
		}
		return b
	}
	if random.Intn(6) == 0 {
		return some(kinds)
	}
	b := slices.Concat(headed(uint64(random.Intn(4))), some(kinds[:3]), ended(), some(kinds[:2]))
	if random.Intn(3) == 0 {
		b = append(b, some(kinds)...)
	}
	if random.Intn(4) == 0 {
		b[random.Intn(len(b))] ^= 1 << random.Intn(8)
	}
	if random.Intn(4) == 0 {
		b = b[:random.Intn(len(b)+1)]
	}
	return b
}

// ballots are some.
func ballots() []mark.Ballot {
	return []mark.Ballot{0, 9, 10, 17, 1 << 20, 1<<27 - 2}
}

// randomState is a right state of one of a few instances.
func randomState(random *rand.Rand) inst.Inst {
	l := ballots()
	x := promised(at(random.Intn(7), random.Intn(3)), l[random.Intn(len(l))])
	x.Status = random.Intn(4)
	if x.Status == inst.None {
		return x
	}
	for x.Vote = l[random.Intn(len(l))]; x.Vote > x.Bal; {
		x.Vote = l[random.Intn(len(l))]
	}
	x.Same = x.Status == inst.Pre && x.Vote == 0 && random.Intn(2) == 0
	paths := []string{"a", "a/b", "a/c", "b", "a-b", strings.Repeat("x", 64)}
	if random.Intn(5) > 0 {
		x.Cmd = acquiring(uint64(random.Intn(4)), paths[random.Intn(len(paths))])
		x.Cmd.Session.Foot = paths[random.Intn(len(paths))]
	}
	x.Attr.Seq = random.Intn(1<<30+1) >> random.Intn(31)
	for r := range x.Attr.Deps {
		x.Attr.Deps[r] = random.Intn(slots+1) >> random.Intn(11)
	}
	x.Attr = x.Attr.Own(x.ID)
	return x
}

// randomNext is a state that likely may come behind one that a vault has.
func randomNext(random *rand.Rand, v *vault.Vault) inst.Inst {
	x := randomState(random)
	for range 30 {
		old := v.Get(x.ID)
		if x.Follows(old) {
			break
		}
		x = randomState(random)
		if random.Intn(2) == 0 && old.Status != inst.None {
			x.Cmd, x.Attr, x.ID, x.Same = old.Cmd, old.Attr, old.ID, old.Same && x.Same
		}
	}
	return x
}

// P15.1: any files against the chapter's words, and what is opened again is the same.
func TestOpenAgainstTheChapter(t *testing.T) {
	random := rand.New(rand.NewSource(15))
	for range 3000 {
		holdOpen(t, randomFile(random), randomFile(random))
		if t.Failed() {
			return
		}
	}
}

// P15.1: what is told of instances without a state, and of those that aren't any.
func TestGetNothing(t *testing.T) {
	v := opened(t, fresh(t, least))
	for range 2 {
		for _, id := range append(wrongIDs(), at(0, 0), at(0, 5), at(2, 1), at(6, 1022)) {
			if got := v.Get(id); got != inst.New(id) {
				t.Error(id, got)
			}
		}
		for _, r := range []int{-1, 7, 8, math.MinInt, math.MaxInt, 1 << 32, 1, 3} {
			if got := v.Slots(r); got != 0 {
				t.Error(r, got)
			}
		}
		writes(t, v, some()...)
	}
	has(t, v, some()...)
}

// P15.1: states by their names, however they came.
func TestList(t *testing.T) {
	random := rand.New(rand.NewSource(150))
	var all []inst.Inst
	for r := range 7 {
		for _, slot := range []int{0, 1, 9, 10, 255, 256, 1023} {
			all = append(all, promised(at(r, slot), 9))
		}
	}
	for range 10 {
		v := opened(t, fresh(t, most))
		for _, n := range random.Perm(len(all)) {
			writes(t, v, all[n])
		}
		has(t, v, all...)
	}
}

// P15.1: one more than the greatest slot, of each replica alone; where it doesn't matter what is known there.
func TestSlots(t *testing.T) {
	v := opened(t, fresh(t, most))
	for _, x := range []struct{ r, slot, want int }{{3, 5, 6}, {3, 2, 6}, {3, 1022, 1023}, {3, 1023, 1024}, {0, 0, 1}, {6, 7, 8}} {
		writes(t, v, promised(at(x.r, x.slot), 9))
		if got := v.Slots(x.r); got != x.want {
			t.Error(x, got)
		}
	}
	for r, want := range []int{1, 0, 0, 1024, 0, 0, 8} {
		if got := v.Slots(r); got != want {
			t.Error(r, got)
		}
	}
}

// P15.1: what comes ahead is what the index says, of all that was written.
func TestAhead(t *testing.T) {
	v := opened(t, fresh(t, least))
	writes(t, v, some()...)
	for _, x := range []struct {
		c    cmd.Cmd
		id   mark.ID
		want attr.Attr
	}{
		{closing(9, "a"), at(1, 2), attr.Attr{Seq: 9, Deps: deps{5, 2, 8}}},
		{closing(9, "a/b"), at(1, 2), attr.Attr{Seq: 9, Deps: deps{5, 2}}},
		{closing(2, "q"), at(0, 1), attr.Attr{Seq: 7, Deps: deps{1, 0, 8}}},
		{closing(9, "q"), at(4, 1), attr.Attr{Deps: deps{4: 1}}},
		{cmd.Cmd{}, at(4, 1), attr.Attr{Deps: deps{4: 1}}},
		{closing(9, "A"), at(4, 1), attr.Attr{Deps: deps{4: 1}}},
		{closing(9, "a"), at(7, 1), attr.Attr{}},
	} {
		if got := v.Ahead(x.c, x.id); got != x.want {
			t.Error(x.c, x.id, got, x.want)
		}
	}
	heard(t, v, someEntries()...)
}

// P15.2: records stand behind the others, safe; then they are known.
func TestWrite(t *testing.T) {
	d := fresh(t, least)
	v := opened(t, d)
	var l []inst.Inst
	for _, x := range some() {
		spends(t, d, len(stated(x))+1, func(v *vault.Vault) api.Errno { return v.Write(x) })
		writes(t, v, x)
		l = append(l, x)
		has(t, v, l...)
		holds(t, d, file(1, nil, nil, l...), nil)
	}
	heard(t, v, someEntries()...)
	generation(t, v, 1)
	again := opened(t, d)
	has(t, again, l...)
	heard(t, again, someEntries()...)
}

// P15.2: several at once are one append and one sync.
func TestWriteSeveral(t *testing.T) {
	d := fresh(t, least)
	v := opened(t, d)
	l := some()
	slices.Reverse(l)
	spends(t, d, len(statedAll(l...))+1, func(v *vault.Vault) api.Errno { return v.Write(l...) })
	writes(t, v, l...)
	has(t, v, some()...)
	heard(t, v, someEntries()...)
	holds(t, d, file(1, nil, nil, l...), nil)
}

// P15.2: a state may come behind one that is ahead of it in the list; all that they had is noted.
func TestWriteInOrder(t *testing.T) {
	id := at(3, 6)
	bare, pre, acc, com := promised(id, 9), valued(id, inst.Pre, 10, closing(1, "a"), 3), valued(id, inst.Accepted, 17, closing(2, "b"), 2), valued(id, inst.Committed, 17, closing(3, "c"), 9)
	row := []inst.Inst{bare, pre, acc, com}
	d := fresh(t, least)
	v := opened(t, d)
	writes(t, v, row...)
	has(t, v, com)
	heard(t, v, entry("a", 1, 3, deps{3: 7}), entry("b", 2, 2, deps{3: 7}), entry("c", 3, 9, deps{3: 7}))
	holds(t, d, file(1, nil, nil, row...), nil)
	for n := range row {
		for m := range row {
			d := fresh(t, least)
			v := opened(t, d)
			want := api.OK
			if n > m {
				want = api.ErrForm
			}
			is(t, v.Write(row[n], some()[0], row[m]), want)
			if want == api.OK {
				has(t, v, some()[0], row[m])
				continue
			}
			has(t, v)
			heard(t, v)
			holds(t, d, file(1, nil, nil), nil)
		}
	}
}

// P15.2: what may not come behind what is known is refused, wherever in the list, and nothing of the list is written.
func TestWriteWrong(t *testing.T) {
	d := fresh(t, least)
	v := opened(t, d)
	writes(t, v, some()...)
	bad := append(wrongs(),
		inst.New(at(2, 0)), promised(at(2, 0), 10), promised(at(0, 4), 17), promised(at(0, 3), 0),
		valued(at(0, 4), inst.Committed, 9, closing(1, "b"), 8), valued(at(0, 4), inst.Committed, 9, closing(1, "a"), 7), valued(at(0, 4), inst.Accepted, 17, closing(1, "a"), 8),
		valued(at(2, 7), inst.Pre, 10, acquiring(2, "a/c"), 6), valued(at(2, 7), inst.Accepted, 10, acquiring(2, "a/c"), 5), valued(at(2, 7), inst.Accepted, 9, acquiring(2, "a/c"), 6),
	)
	good := promised(at(5, 5), 9)
	for _, x := range bad {
		for _, l := range [][]inst.Inst{{x}, {good, x}, {x, good}, {good, x, good}} {
			is(t, v.Write(l...), api.ErrForm)
		}
	}
	has(t, v, some()...)
	heard(t, v, someEntries()...)
	generation(t, v, 1)
	holds(t, d, file(1, nil, nil, some()...), nil)
	// Ahead of all other errors.
	d.Arm(0)
	many := slices.Repeat([]inst.Inst{good}, 200)
	is(t, v.Write(append(many, bad[0])...), api.ErrForm)
	is(t, v.Write(bad[0]), api.ErrForm)
	if d.Down() {
		t.Error("refused, but the disk was asked")
	}
	is(t, v.Write(good), api.ErrDown)
	is(t, v.Write(bad[0]), api.ErrForm)
}

// P15.2: none are written without asking the disk, whether it is down or full.
func TestWriteNone(t *testing.T) {
	d := fresh(t, least)
	v := opened(t, d)
	writes(t, v, some()...)
	was := d.Copy()
	d.Arm(0)
	is(t, v.Write(), api.OK)
	is(t, v.Write([]inst.Inst{}...), api.OK)
	if d.Down() {
		t.Error("the disk was asked")
	}
	is(t, d.Sync(1), api.ErrDown)
	is(t, v.Write(), api.OK)
	has(t, v, some()...)
	holds(t, d, was.Read(0), nil)

	d = fresh(t, least)
	v = opened(t, d)
	for n := 0; d.Left() >= 12; n++ {
		writes(t, v, promised(at(0, n), 9))
	}
	is(t, v.Write(), api.OK)
	generation(t, v, 1)
}

// nothingKnown are states with nothing known, by their names: the first one is zero.
func nothingKnown() []inst.Inst {
	return []inst.Inst{{}, inst.New(at(0, 1)), inst.New(at(3, 7)), inst.New(at(4, 4)), inst.New(at(6, 1023))}
}

// P15.1 to P15.3: a state with nothing known that was written is known like any other one, but nothing is noted of it.
func TestWriteNothingKnown(t *testing.T) {
	for _, l := range [][]inst.Inst{nothingKnown()[:1], nothingKnown()[1:2], nothingKnown()[4:], nothingKnown()} {
		d := fresh(t, least)
		v := opened(t, d)
		check := func(generation uint64, a, b []byte) {
			t.Helper()
			holds(t, d, a, b)
			for _, v := range []*vault.Vault{v, opened(t, d)} {
				has(t, v, l...)
				heard(t, v)
				if v.Generation() != generation {
					t.Error(v.Generation())
				}
			}
		}
		spends(t, d, len(statedAll(l...))+1, func(v *vault.Vault) api.Errno { return v.Write(l...) })
		writes(t, v, l...)
		check(1, file(1, nil, nil, l...), nil)
		// Another one of the same may come behind it.
		writes(t, v, l[0])
		check(1, file(1, nil, nil, append(slices.Clone(l), l[0])...), nil)
		is(t, v.Draw(), api.OK)
		check(2, nil, file(2, l, nil))
		v = opened(t, d)
		is(t, v.Draw(), api.OK)
		check(3, file(3, l, nil), nil)
	}
}

// P15.2: a state of which more is known may come behind one with nothing known; not the other way.
func TestWriteBehindNothingKnown(t *testing.T) {
	d := fresh(t, least)
	v := opened(t, d)
	zero, other := inst.New(at(4, 4)), inst.New(at(4, 9))
	writes(t, v, other, zero, promised(zero.ID, 9), promised(zero.ID, 10))
	has(t, v, promised(zero.ID, 10), other)
	is(t, v.Write(zero), api.ErrForm)
	pre := valued(zero.ID, inst.Pre, 10, closing(1, "a"), 3)
	writes(t, v, pre)
	is(t, v.Write(zero), api.ErrForm)
	has(t, v, pre, other)
	heard(t, v, entry("a", 1, 3, deps{4: 5}))
	is(t, v.Draw(), api.OK)
	holds(t, d, nil, file(2, []inst.Inst{pre, other}, v.Entries()))
	has(t, opened(t, d), pre, other)
}

// rising is a file with states of which some were written over, so that it has so many bytes more than the picture of its vault.
func rising(t testing.TB, more int) []byte {
	t.Helper()
	b := file(1, nil, nil, some()...)
	// These have as many bytes in the picture: with them it makes a disk.
	for n := range 30 {
		b = append(b, stated(promised(at(4, n), 9))...)
	}
	entries := 0
	for _, e := range someEntries() {
		entries += len(entered(e))
	}
	// Ballots of one byte to four make records of 10 bytes to 13: any count from 30 on can be made of such.
	over := more + entries
	count := (over + 12) / 13
	first := []mark.Ballot{1 << 3, 1 << 7, 1 << 14, 1 << 21}
	for n := range count {
		k := (over+n)/count - 10
		first[k] += 8
		b = append(b, stated(promised(at(5, 5), first[k]))...)
	}
	b = append(b, stated(promised(at(5, 5), 1<<26))...)
	if p := picture(opened(t, with(t, most, b, nil))); len(b)-len(p) != more {
		t.Fatal(len(b), len(p), more)
	}
	return b
}

// edge is a disk with a vault, so that so many bytes are left.
func edge(t testing.TB, file []byte, left int) (*disk.Disk, *vault.Vault) {
	t.Helper()
	d := with(t, len(file)+left, file, nil)
	return d, opened(t, d)
}

// long is a file with so many promises of one instance behind some states, and how many bytes the vault's picture has.
func long(t testing.TB, promises int, l ...inst.Inst) (b []byte, pictured int) {
	t.Helper()
	b = file(1, nil, nil, l...)
	for n := range promises {
		b = append(b, stated(promised(at(5, 5), mark.Ballot(n+1)<<3))...)
	}
	v := opened(t, with(t, most, b, nil))
	return b, len(picture(v))
}

// large are states of as many bytes as there are, nearly.
func large() []inst.Inst {
	var l []inst.Inst
	for n := range 5 {
		x := valued(at(0, n), inst.Pre, 1<<27-2, cmd.Cmd{Kind: cmd.Check, Session: cmd.Session{Num: math.MaxUint64, Foot: strings.Repeat("y", 64)}, Request: math.MaxUint64, Path: strings.Repeat("z", 64), N: 1<<63 - 1}, 1<<30)
		x.Attr.Deps = deps{n, slots, slots, slots, slots, slots, slots}
		l = append(l, x)
	}
	return l
}

// P15.2: the picture is drawn anew, if there were no room for it behind the records, but is now.
func TestWriteDraws(t *testing.T) {
	x := valued(at(1, 1), inst.Accepted, 17, acquiring(4, "a/b/c"), 3)
	for _, in := range [][]inst.Inst{some(), large(), {promised(at(0, 0), 9), promised(at(6, 6), 9)}, nothingKnown(), nil} {
		b, p := long(t, 120, in...)
		n := len(stated(x))
		for _, left := range []int{p + n + 1, p + n, p + n - 1, p + 1, p, p - 1, n + 1, n, n - 1, 0} {
			d, v := edge(t, b, left)
			states, drawn := v.List(), picture(v)
			e := v.Write(x)
			switch {
			case left >= p && left < p+n:
				is(t, e, api.OK)
				holds(t, d, nil, append(drawn, stated(x)...))
				generation(t, v, 2)
			case left >= n:
				is(t, e, api.OK)
				holds(t, d, append(bytes.Clone(b), stated(x)...), nil)
				generation(t, v, 1)
			default:
				is(t, e, api.ErrFull)
				holds(t, d, b, nil)
				generation(t, v, 1)
			}
			if e == api.OK {
				states = sorted(append(states, x)...)
			}
			has(t, v, states...)
			has(t, opened(t, d), states...)
		}
	}
}

// P15.2: but just if the picture has fewer bytes than the current file.
func TestWriteDrawsIfFewer(t *testing.T) {
	x := valued(at(1, 1), inst.Accepted, 17, acquiring(4, "a/b/c"), 3)
	for more := -40; more < 40; more++ {
		b := rising(t, more)
		drawn := picture(opened(t, with(t, most, b, nil)))
		for left := len(drawn); left < len(drawn)+len(stated(x)); left++ {
			d, v := edge(t, b, left)
			is(t, v.Write(x), api.OK)
			if more > 0 {
				holds(t, d, nil, append(bytes.Clone(drawn), stated(x)...))
				generation(t, v, 2)
				continue
			}
			holds(t, d, append(bytes.Clone(b), stated(x)...), nil)
			generation(t, v, 1)
		}
	}
}

// P15.2: where there isn't room for the records, though it was drawn anew, that stays.
func TestWriteDrawsAndIsFull(t *testing.T) {
	b, p := long(t, 100, some()...)
	var l []inst.Inst
	for n := range 60 {
		l = append(l, valued(at(3, n), inst.Pre, 9, closing(7, "q/r"), n))
	}
	n := len(statedAll(l...))
	for _, w := range []struct {
		size int
		e    api.Errno
	}{{p + n, api.OK}, {p + n - 1, api.ErrFull}, {p + n - 20, api.ErrFull}} {
		if left := w.size - len(b); left < p || left >= n+p {
			t.Fatal(w, len(b), p, n)
		}
		d, v := edge(t, b, w.size-len(b))
		states, entries, drawn := v.List(), v.Entries(), picture(v)
		is(t, v.Write(l...), w.e)
		generation(t, v, 2)
		if w.e == api.OK {
			holds(t, d, nil, append(drawn, statedAll(l...)...))
			continue
		}
		holds(t, d, nil, drawn)
		has(t, v, states...)
		heard(t, v, entries...)
		has(t, opened(t, d), states...)
	}
}

// P15.2: a disk that is full stays as it is, as often as it is tried; smaller ones still go in.
func TestWriteFull(t *testing.T) {
	d := fresh(t, least)
	v := opened(t, d)
	var l []inst.Inst
	big := valued(at(6, 0), inst.Pre, 9, acquiring(1<<63, strings.Repeat("y", 64)), 1<<30)
	for n := 0; d.Left() >= 11; n++ {
		x := promised(at(0, n), 9)
		if d.Left() < len(stated(x)) {
			break
		}
		writes(t, v, x)
		l = append(l, x)
		if d.Left() < len(stated(big)) {
			is(t, v.Write(big), api.ErrFull)
			is(t, v.Write(promised(at(0, n+1), 9), big), api.ErrFull)
			has(t, v, l...)
			heard(t, v)
		}
	}
	generation(t, v, 1)
	holds(t, d, file(1, nil, nil, l...), nil)
	// It is said ahead of the disk's being down.
	d.Arm(0)
	is(t, d.Sync(0), api.ErrDown)
	is(t, v.Write(big), api.ErrFull)
}

// P15.2: the disk's error where it is drawn anew, and where it isn't; what is told stays as it was.
func TestWriteDown(t *testing.T) {
	b, p := long(t, 100, some()...)
	x := valued(at(1, 1), inst.Accepted, 17, acquiring(4, "a/b/c"), 3)
	n := len(stated(x))
	for _, w := range []struct{ left, drawn int }{{p + n, 0}, {p, p + 2}} {
		for units := range w.drawn + n + 2 {
			d, v := edge(t, b, w.left)
			states, entries := v.List(), v.Entries()
			d.Arm(units)
			if units == w.drawn+n+1 {
				is(t, v.Write(x), api.OK)
				continue
			}
			is(t, v.Write(x), api.ErrDown)
			has(t, v, states...)
			heard(t, v, entries...)
			if units < p+2 || w.drawn == 0 {
				generation(t, v, 1)
			} else {
				generation(t, v, 2)
			}
		}
	}
}

// P15.3: the other file gets the picture, and this one nothing.
func TestDraw(t *testing.T) {
	d := fresh(t, least)
	v := opened(t, d)
	writes(t, v, some()...)
	writes(t, v, valued(at(2, 0), inst.Pre, 1<<20, closing(5, "z"), 0))
	states, entries := v.List(), v.Entries()
	for n := range 300 {
		drawn := file(uint64(n+2), states, entries)
		spends(t, d, len(drawn)+2, (*vault.Vault).Draw)
		is(t, v.Draw(), api.OK)
		files := [2][]byte{}
		files[(n+1)%2] = drawn
		holds(t, d, files[0], files[1])
		generation(t, v, uint64(n+2))
		has(t, v, states...)
		heard(t, v, entries...)
		v = opened(t, d)
		generation(t, v, uint64(n+2))
		has(t, v, states...)
		heard(t, v, entries...)
	}
	// What is written stands behind the picture, in the current file.
	writes(t, v, promised(at(4, 4), 9))
	holds(t, d, file(301, states, entries, promised(at(4, 4), 9)), nil)
}

// P15.3: what a state had is in the picture, whatever the instance has now.
func TestDrawKeepsTheIndex(t *testing.T) {
	id := at(3, 6)
	d := fresh(t, least)
	v := opened(t, d)
	writes(t, v, valued(id, inst.Pre, 9, closing(1, "a"), 30))
	writes(t, v, valued(id, inst.Pre, 10, closing(2, "b"), 20))
	writes(t, v, valued(id, inst.Committed, 10, cmd.Cmd{}, 40))
	in := []index.Entry{entry("a", 1, 30, deps{3: 7}), entry("b", 2, 20, deps{3: 7})}
	for range 4 {
		is(t, v.Draw(), api.OK)
		heard(t, v, in...)
		v = opened(t, d)
		heard(t, v, in...)
		has(t, v, valued(id, inst.Committed, 10, cmd.Cmd{}, 40))
	}
}

// P15.3: an empty vault, too, has a picture.
func TestDrawEmpty(t *testing.T) {
	d := fresh(t, least)
	v := opened(t, d)
	is(t, v.Draw(), api.OK)
	holds(t, d, nil, file(2, nil, nil))
	has(t, v)
	heard(t, v)
}

// P15.3: it needs room for the picture, and no more.
func TestDrawFull(t *testing.T) {
	b, p := long(t, 100, some()...)
	for _, left := range []int{0, 1, p - 1, p, p + 1} {
		d, v := edge(t, b, left)
		states, entries, drawn := v.List(), v.Entries(), picture(v)
		if left < p {
			d.Arm(0)
			is(t, v.Draw(), api.ErrFull)
			if d.Down() {
				t.Error("the disk was asked")
			}
			holds(t, d, b, nil)
			generation(t, v, 1)
		} else {
			is(t, v.Draw(), api.OK)
			holds(t, d, nil, drawn)
			generation(t, v, 2)
		}
		has(t, v, states...)
		heard(t, v, entries...)
	}
}

// P15.3: a picture may have more bytes than the file: it is drawn nonetheless.
func TestDrawMore(t *testing.T) {
	d := fresh(t, least)
	v := opened(t, d)
	writes(t, v, some()...)
	was := len(d.Read(0))
	is(t, v.Draw(), api.OK)
	if now := len(d.Read(1)); now <= was {
		t.Error(now, was)
	}
}

// P15.3: where the power goes, what is told stays, the generation too.
func TestDrawDown(t *testing.T) {
	b, p := long(t, 20, some()...)
	for units := range p + 2 {
		d, v := edge(t, b, most-len(b))
		states, entries := v.List(), v.Entries()
		d.Arm(units)
		is(t, v.Draw(), api.ErrDown)
		has(t, v, states...)
		heard(t, v, entries...)
		generation(t, v, 1)
	}
}

// P15.3: the generation behind the greatest one is 0, as words of 64 bits have it.
func TestGenerations(t *testing.T) {
	for _, g := range []uint64{0, 1, 126, 127, 128, 1<<32 - 1, 1<<63 - 1, math.MaxUint64 - 1, math.MaxUint64} {
		d := with(t, least, nil, file(g, some(), nil))
		v := opened(t, d)
		generation(t, v, g)
		is(t, v.Draw(), api.OK)
		generation(t, v, g+1)
		holds(t, d, file(g+1, some(), someEntries()), nil)
	}
}

// model is a vault by the chapter's words.
type model struct {
	room       int
	files      [2][]byte
	current    int
	generation uint64
	states     map[mark.ID]inst.Inst
	index      *index.Index
}

// newModel is the model of a vault that is opened from an empty disk.
func newModel(size int) *model {
	m := &model{room: size, generation: 1, states: map[mark.ID]inst.Inst{}, index: index.New()}
	m.files[0] = file(1, nil, nil)
	return m
}

// left is how much room there is.
func (m *model) left() int {
	return m.room - len(m.files[0]) - len(m.files[1])
}

// get is an instance's state.
func (m *model) get(id mark.ID) inst.Inst {
	if x, ok := m.states[id]; ok {
		return x
	}
	return inst.New(id)
}

// picture is what is drawn.
func (m *model) picture() []byte {
	return file(m.generation+1, listed(m.states), m.index.List())
}

// draw draws anew.
func (m *model) draw() api.Errno {
	p := m.picture()
	if m.left() < len(p) {
		return api.ErrFull
	}
	m.files[1-m.current] = p
	m.files[m.current] = nil
	m.current = 1 - m.current
	m.generation++
	return api.OK
}

// knows takes in states.
func (m *model) knows(l ...inst.Inst) {
	for _, x := range l {
		m.states[x.ID] = x
		m.index.Note(x.Cmd, x.ID, x.Attr.Seq)
	}
}

// copied is another model, the same.
func (m *model) copied() *model {
	c := *m
	c.states, c.index = map[mark.ID]inst.Inst{}, index.New()
	for id, x := range m.states {
		c.states[id] = x
	}
	for _, e := range m.index.List() {
		c.index.Add(e)
	}
	return &c
}

// write writes states.
func (m *model) write(l []inst.Inst) api.Errno {
	then := m.copied()
	for _, x := range l {
		if !x.Follows(then.get(x.ID)) {
			return api.ErrForm
		}
		then.knows(x)
	}
	if len(l) == 0 {
		return api.OK
	}
	n, p := len(statedAll(l...)), len(m.picture())
	if m.left() < n+p && m.left() >= p && p < len(m.files[m.current]) {
		m.draw()
	}
	if m.left() < n {
		return api.ErrFull
	}
	m.files[m.current] = append(m.files[m.current], statedAll(l...)...)
	m.knows(l...)
	return api.OK
}

// tells tells whether a vault tells what its model does.
func (m *model) tells(t testing.TB, v *vault.Vault) {
	t.Helper()
	has(t, v, listed(m.states)...)
	heard(t, v, m.index.List()...)
}

// randomList are some states for a Write.
func randomList(random *rand.Rand, v *vault.Vault) []inst.Inst {
	if random.Intn(20) == 0 {
		w := wrongs()
		return []inst.Inst{randomNext(random, v), w[random.Intn(len(w))]}
	}
	var l []inst.Inst
	for range random.Intn(4) {
		l = append(l, randomNext(random, v))
		if random.Intn(6) == 0 {
			l = append(l, l[random.Intn(len(l))])
		}
	}
	return l
}

// P15.1 to P15.3: anything done in any order against the chapter's words, to the byte, on disks that are soon full.
func TestAgainstTheChapter(t *testing.T) {
	random := rand.New(rand.NewSource(151))
	drawn, full := 0, 0
	for range 150 {
		size := least + random.Intn(2500)
		d, m := fresh(t, size), newModel(size)
		v := opened(t, d)
		for range 80 {
			was := m.generation
			switch k := random.Intn(20); k {
			case 0:
				is(t, v.Draw(), m.draw())
			case 1:
				v = opened(t, d)
			default:
				l := randomList(random, v)
				e := m.write(l)
				is(t, v.Write(l...), e)
				if m.generation != was {
					drawn++
				}
				if e == api.ErrFull {
					full++
				}
			}
			holds(t, d, m.files[0], m.files[1])
			generation(t, v, m.generation)
			m.tells(t, v)
			if t.Failed() {
				return
			}
		}
	}
	if drawn < 50 || full < 50 {
		t.Error("too seldom:", drawn, full)
	}
}

// keeps are what may be kept of a disk's files behind a crash: none, all, all but one byte, and some between.
func keeps(d *disk.Disk, random *rand.Rand) []keep {
	var others keep
	for f := range others {
		others[f] = len(d.Read(f)) - d.Safe(f)
	}
	l := []keep{{-1, 0}, {powerful, powerful}, {others[0] - 1, others[1] - 1}}
	for range 2 {
		l = append(l, keep{random.Intn(others[0] + 1), random.Intn(others[1] + 1)})
	}
	return l
}

// outlived tells whether a vault has all that a model has, and all or a beginning of some states more: as many as are told.
func outlived(t testing.TB, v *vault.Vault, m *model, l []inst.Inst) (n int) {
	t.Helper()
	states, entries := v.List(), v.Entries()
	for n := range len(l) + 1 {
		then := m.copied()
		then.knows(l[:n]...)
		if slices.Equal(states, listed(then.states)) && slices.Equal(entries, then.index.List()) {
			then.tells(t, v)
			return n
		}
	}
	t.Errorf("%v, neither %v nor with any of %v behind; or %v", states, listed(m.states), l, entries)
	return 0
}

// tidied tells whether a disk has a log alone, and is opened again as it is.
func tidied(t testing.TB, d *disk.Disk, v *vault.Vault) {
	t.Helper()
	a, b := d.Read(0), d.Read(1)
	if len(a) > 0 && len(b) > 0 || !scan(append(a, b...)).whole || scan(append(a, b...)).good != len(a)+len(b) {
		t.Errorf("%x %x", a, b)
	}
	again := opened(t, d)
	if again.Generation() != v.Generation() || !slices.Equal(again.List(), v.List()) || !slices.Equal(again.Entries(), v.Entries()) {
		t.Error(again.List(), v.List())
	}
	holds(t, d, a, b)
}

// script is a row of Writes, of which an empty one is a Draw, that may all be done, and that draw by themselves, too.
func script(t testing.TB, random *rand.Rand, size, count int) [][]inst.Inst {
	t.Helper()
	v := opened(t, fresh(t, size))
	var s [][]inst.Inst
	for range 20 * count {
		l := randomList(random, v)
		if len(l) == 0 && v.Draw() == api.OK || len(l) > 0 && v.Write(l...) == api.OK {
			s = append(s, l)
		}
		if len(s) == count {
			break
		}
	}
	return s
}

// play does a script's calls, till one is refused: behind how many, and what the model has then.
func play(t testing.TB, v *vault.Vault, s [][]inst.Inst, m *model) (done int, e api.Errno) {
	t.Helper()
	for n, l := range s {
		if len(l) == 0 {
			e = v.Draw()
		} else {
			e = v.Write(l...)
		}
		if e != api.OK {
			return n, e
		}
		m.knows(l...)
	}
	return len(s), api.OK
}

// P15.4: the power goes at each unit of a row of calls, the first Open too, and whatever is kept: all that was written is there, and a beginning of the rest.
func TestCrash(t *testing.T) {
	random := rand.New(rand.NewSource(152))
	torn, between, drawn := 0, 0, 0
	for _, size := range []int{least, 2000} {
		s := script(t, random, size, 9)
		for units := 0; ; units++ {
			d, m := fresh(t, size), newModel(size)
			d.Arm(units)
			var l []inst.Inst
			v, e := vault.Open(d)
			if e == api.OK {
				var done int
				if done, e = play(t, v, s, m); done < len(s) {
					l = s[done]
				}
				m.tells(t, v)
			}
			if e == api.OK {
				break
			}
			is(t, e, api.ErrDown)
			for _, k := range keeps(d, random) {
				c := d.Copy()
				c.Crash(k)
				if scan(c.Read(0)).whole && scan(c.Read(1)).whole {
					drawn++
				}
				w := opened(t, c)
				n := outlived(t, w, m, l)
				if n > 0 {
					torn++
				}
				if n > 0 && n < len(l) {
					between++
				}
				tidied(t, c, w)
				if t.Failed() {
					t.Fatal(size, units, k)
				}
			}
		}
	}
	if torn < 50 || between < 50 || drawn < 10 {
		t.Error("too seldom:", torn, between, drawn)
	}
}

// P15.4: states with nothing known outlive the power's going like others: those written with OK are there, and a beginning of those that weren't.
func TestCrashNothingKnown(t *testing.T) {
	random := rand.New(rand.NewSource(157))
	l := nothingKnown()
	s := [][]inst.Inst{l[:2], nil, l[2:], nil}
	for units := 0; ; units++ {
		d, m := fresh(t, least), newModel(least)
		v := opened(t, d)
		d.Arm(units)
		done, e := play(t, v, s, m)
		m.tells(t, v)
		if e == api.OK {
			has(t, v, l...)
			return
		}
		is(t, e, api.ErrDown)
		for _, k := range keeps(d, random) {
			c := d.Copy()
			c.Crash(k)
			w := opened(t, c)
			outlived(t, w, m, s[done])
			tidied(t, c, w)
		}
	}
}

// P15.4: and where it goes again, while the disk is opened.
func TestCrashInOpen(t *testing.T) {
	random := rand.New(rand.NewSource(153))
	s := script(t, random, least, 4)
	for units := 0; ; units++ {
		d, m := fresh(t, least), newModel(least)
		d.Arm(units)
		var l []inst.Inst
		v, e := vault.Open(d)
		if e == api.OK {
			var done int
			if done, e = play(t, v, s, m); done < len(s) {
				l = s[done]
			}
		}
		if e == api.OK {
			return
		}
		for _, k := range keeps(d, random) {
			for more := 0; ; more++ {
				c := d.Copy()
				c.Crash(k)
				c.Arm(more)
				w, e := vault.Open(c)
				for _, again := range keeps(c, random) {
					r := c.Copy()
					r.Crash(again)
					x := opened(t, r)
					n := outlived(t, x, m, l)
					if e == api.OK && outlived(t, w, m, l) != n {
						t.Error("what was told isn't there any more")
					}
				}
				if t.Failed() {
					t.Fatal(units, k, more)
				}
				if e == api.OK {
					break
				}
				is(t, e, api.ErrDown)
			}
		}
	}
}

// P15.4: crash behind crash, on one disk.
func TestCrashes(t *testing.T) {
	random := rand.New(rand.NewSource(154))
	for range 60 {
		size := least + random.Intn(2000)
		d, m := fresh(t, size), newModel(size)
		v := opened(t, d)
		for range 60 {
			d.Arm(random.Intn(600) >> random.Intn(6))
			l := randomList(random, v)
			e := api.OK
			if random.Intn(10) == 0 {
				l = nil
				e = v.Draw()
			} else {
				e = v.Write(l...)
			}
			switch e {
			case api.OK:
				m.knows(l...)
				continue
			case api.ErrDown:
			default:
				continue
			}
			k := keeps(d, random)
			d.Crash(k[random.Intn(len(k))])
			v = opened(t, d)
			m.knows(l[:outlived(t, v, m, l)]...)
			if t.Failed() {
				return
			}
		}
		m.tells(t, v)
	}
}

// P15.4: without a failing call, too, nothing is lost: all is safe behind each OK.
func TestCrashBetween(t *testing.T) {
	random := rand.New(rand.NewSource(155))
	d, m := fresh(t, 3000), newModel(3000)
	v := opened(t, d)
	for range 300 {
		l := randomList(random, v)
		if v.Write(l...) == api.OK {
			m.knows(l...)
		}
		if random.Intn(10) == 0 {
			v.Draw()
		}
		c := d.Copy()
		c.Crash(keep{})
		w := opened(t, c)
		m.tells(t, w)
		generation(t, w, v.Generation())
	}
}

// where tells where a text's bytes stand.
func where(s string) uintptr {
	return uintptr(unsafe.Pointer(unsafe.StringData(s)))
}

// over is the text that stands in bytes, and changes with them.
func over(b []byte) string {
	return unsafe.String(unsafe.SliceData(b), len(b))
}

// P15.2: what is handed in is neither changed nor kept.
func TestMemoryOfWhatIsHandedIn(t *testing.T) {
	d := fresh(t, least)
	v := opened(t, d)
	want := valued(at(1, 1), inst.Accepted, 9, acquiring(3, "p/q"), 4)
	for range 2 {
		foot, path := []byte("z"), []byte("p/q")
		x := want
		x.Cmd.Session.Foot, x.Cmd.Path = over(foot), over(path)
		l := append(make([]inst.Inst, 0, 9), promised(at(0, 0), 17), x)
		spare := l[:cap(l)]
		spare[8] = some()[0]
		writes(t, v, l...)
		if l[0] != promised(at(0, 0), 17) || l[1] != want || spare[8] != some()[0] || spare[2] != (inst.Inst{}) {
			t.Error(l, spare)
		}
		foot[0], path[0], l[0] = 'y', 'o', inst.Inst{}
		has(t, v, promised(at(0, 0), 17), want)
		heard(t, v, entry("p/q", 3, 4, deps{1: 2}))
	}
	c := acquiring(8, "p")
	path := []byte("p")
	c.Path = over(path)
	v.Ahead(c, at(0, 0))
	path[0] = 'q'
	heard(t, v, entry("p/q", 3, 4, deps{1: 2}))
}

// P15.1: what is told is new, and shares nothing with another answer.
func TestMemoryOfWhatIsTold(t *testing.T) {
	v := opened(t, fresh(t, least))
	x := valued(at(1, 1), inst.Accepted, 9, acquiring(3, "p/q"), 4)
	writes(t, v, append(some(), x)...)
	told := [][]inst.Inst{v.List(), v.List(), {v.Get(x.ID)}, {v.Get(x.ID)}, {x}}
	seen := map[uintptr]bool{}
	for _, l := range told {
		for _, y := range l {
			if y.ID != x.ID {
				continue
			}
			for _, s := range []string{y.Cmd.Session.Foot, y.Cmd.Path} {
				if seen[where(s)] {
					t.Error(s, "is told twice")
				}
				seen[where(s)] = true
			}
		}
	}
	clear(told[0][:cap(told[0])])
	a, b := v.Entries(), v.Entries()
	clear(a[:cap(a)])
	if !slices.Equal(b, v.Entries()) || !slices.Equal(told[1], v.List()) || len(b) != 4 {
		t.Error(b, told[1])
	}
}

// P15.1: no two vaults have anything together, but the disk that they are given; a vault of a copy is another one.
func TestAlone(t *testing.T) {
	d := fresh(t, least)
	v := opened(t, d)
	writes(t, v, some()[0])
	w := opened(t, d.Copy())
	writes(t, w, some()[1])
	has(t, v, some()[0])
	has(t, w, some()[:2]...)
	has(t, opened(t, fresh(t, least)))
}

// P1 and P15.2: all instances that there are, with entries of their own, in short time, on the greatest disk and on one that is just too small.
func TestManyStates(t *testing.T) {
	if testing.Short() {
		t.Skip("long")
	}
	for _, size := range []int{1 << 18, most} {
		d := fresh(t, size)
		v := opened(t, d)
		full := false
		count := 0
		for slot := range slots {
			var l []inst.Inst
			for r := range api.MaxReplicas {
				l = append(l, valued(at(r, slot), inst.Committed, 9, acquiring(uint64(slot), "a/b/c"), slot))
			}
			e := v.Write(l...)
			if full = e == api.ErrFull; full {
				break
			}
			is(t, e, api.OK)
			count += len(l)
		}
		if full != (size < most) || len(v.List()) != count {
			t.Error(size, full, count)
		}
		w := opened(t, d)
		if len(w.List()) != count || len(w.Entries()) != count/api.MaxReplicas {
			t.Error(len(w.List()), len(w.Entries()), count)
		}
	}
}

// P1 and P15.1: whatever stands in the files, all is as the chapter's words say, and goes on.
func FuzzOpen(f *testing.F) {
	random := rand.New(rand.NewSource(156))
	f.Add([]byte{}, []byte{})
	f.Add(file(1, some(), someEntries()), file(2, nil, nil, some()...))
	for _, r := range badRecords() {
		f.Add(append(file(1, nil, nil), framed(r)...), framed(r))
	}
	for range 30 {
		f.Add(randomFile(random), randomFile(random))
	}
	f.Fuzz(func(t *testing.T, a, b []byte) {
		if len(a)+len(b) > 1<<20 {
			return
		}
		v := holdOpen(t, a, b)
		states, entries, g := v.List(), v.Entries(), v.Generation()
		is(t, v.Draw(), api.OK)
		has(t, v, states...)
		heard(t, v, entries...)
		generation(t, v, g+1)
		x := randomNext(rand.New(rand.NewSource(int64(len(a)))), v)
		if x.Follows(v.Get(x.ID)) {
			is(t, v.Write(x), api.OK)
		} else {
			is(t, v.Write(x), api.ErrForm)
		}
	})
}
