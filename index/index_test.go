package index_test

import (
	"bytes"
	"encoding/binary"
	"fmt"
	"math"
	"math/rand"
	"slices"
	"strings"
	"testing"
	"unsafe"

	"moothill/api"
	"moothill/attr"
	"moothill/clash"
	"moothill/cmd"
	"moothill/index"
	"moothill/mark"
	"moothill/path"
	"moothill/wire"
)

const (
	slots = 1024
	most  = 1 << 30
)

// deps are what is covered of each replica.
type deps = [api.MaxReplicas]int

// deepest is a path of eight parts, longest one of 64 bytes.
var (
	deepest = "1/2/3/4/5/6/7/8"
	longest = strings.Repeat("x", 64)
)

// paths has paths, by rising bytes; where they are ordered part by part, a/b stands ahead of a-b.
func paths() []string {
	return []string{"-", "1", deepest, "_", "a", "a-b", "a/b", "a/b/c", "a/bc", "a/c", "a0", "aa", "ab", "b", "b/a", longest}
}

// wrongs has texts that are no paths.
func wrongs() []string {
	return []string{"", "/", "a/", "/a", "a//b", "A", "a b", "a.b", "*", "a/**", ".", "..", "a/..", "é", "\xff", "\x00", longest + "x", deepest + "/9"}
}

// closing is the Close of a session with a footprint, acquiring the Acquire of a path: in short, commands with these keys.
func closing(num uint64, foot string) cmd.Cmd {
	return cmd.Cmd{Kind: cmd.Close, Session: cmd.Session{Num: num, Foot: foot}, Request: 1}
}

func acquiring(num uint64, path string) cmd.Cmd {
	return cmd.Cmd{Kind: cmd.Acquire, Session: cmd.Session{Num: num, Foot: "z"}, Request: 1, Path: path, Mode: cmd.Exclusive}
}

// kinds gives a right command of each kind, of a session with a footprint, on a path.
func kinds(num uint64, foot, path string) []cmd.Cmd {
	s := cmd.Session{Num: num, Foot: foot}
	return []cmd.Cmd{
		{},
		{Kind: cmd.Open, Session: s, Request: 1, N: 1, Time: 1},
		{Kind: cmd.Close, Session: s, Request: 1},
		{Kind: cmd.Keep, Session: s, Request: 1, Time: 1},
		{Kind: cmd.Acquire, Session: s, Request: 1, Path: path, Mode: cmd.Shared},
		{Kind: cmd.Try, Session: s, Request: 1, Path: path, Mode: cmd.Exclusive},
		{Kind: cmd.Release, Session: s, Request: 1, Path: path},
		{Kind: cmd.Check, Session: s, Request: 1, Path: path, N: 1},
		{Kind: cmd.Expire, Session: s, Time: 1},
	}
}

// keyless gives commands without a key: a Noop, and such as aren't right.
func keyless() []cmd.Cmd {
	l := []cmd.Cmd{{}, {Kind: -1}, {Kind: 9}, {Kind: math.MaxInt}, {Request: 1}, {Path: "a"}, {Session: cmd.Session{Num: 1, Foot: "a"}}}
	for _, p := range wrongs() {
		l = append(l, kinds(1, p, "a")[1:]...)
		l = append(l, kinds(1, "a", p)[4:8]...)
	}
	for _, c := range kinds(1, "a", "a") {
		without, beside := c, c
		without.Request, without.Time = 0, -1
		beside.Kind += 9
		l = append(l, without, beside)
	}
	return l
}

// wrongIDs gives names that no instance has.
func wrongIDs() []mark.ID {
	return []mark.ID{{Replica: -1}, {Replica: 7}, {Replica: 8, Slot: 3}, {Slot: -1}, {Slot: slots}, {Replica: 6, Slot: slots}, {Replica: math.MaxInt, Slot: math.MaxInt}, {Replica: math.MinInt, Slot: math.MinInt}, {Replica: 1 << 32, Slot: 1}, {Replica: 1, Slot: 1 << 32}}
}

// seqs gives numbers at which Seq ends, and some beside them.
func seqs() []int {
	return []int{math.MinInt, math.MinInt + 1, -most, -2, -1, 0, 1, 2, 7, most - 2, most - 1, most, most + 1, 1 << 31, 1 << 32, 1<<32 + 5, math.MaxInt - 1, math.MaxInt}
}

// at is the instance of a replica's slot.
func at(replica, slot int) mark.ID {
	return mark.ID{Replica: replica, Slot: slot}
}

// entry is an entry, written shortly.
func entry(foot string, num uint64, seq int, d deps) index.Entry {
	return index.Entry{Key: clash.Key{Foot: foot, Num: num}, Attr: attr.Attr{Seq: seq, Deps: d}}
}

// has tells whether an index has just some entries, in this order.
func has(t *testing.T, x *index.Index, want ...index.Entry) {
	t.Helper()
	if got := x.List(); !slices.Equal(got, want) {
		t.Errorf("%v, not %v", got, want)
	}
	if x.Count() != len(want) {
		t.Error(x.Count(), len(want))
	}
}

// asks tells whether something comes ahead of a command.
func asks(t *testing.T, x *index.Index, c cmd.Cmd, id mark.ID, seq int, d deps) {
	t.Helper()
	if got, want := x.Ask(c, id), (attr.Attr{Seq: seq, Deps: d}); got != want {
		t.Errorf("%+v %v: %v, not %v", c, id, got, want)
	}
}

// some is an index with keys that interfere, and don't.
func some() *index.Index {
	x := index.New()
	x.Note(acquiring(1, "a"), at(0, 4), 10)
	x.Note(acquiring(2, "a/b"), at(1, 6), 20)
	x.Note(acquiring(3, "a/c"), at(2, 8), 30)
	x.Note(acquiring(1, "b"), at(3, 1), 40)
	x.Note(acquiring(4, "ab"), at(4, 0), 50)
	return x
}

// P12.1: the chapter's example.
func TestExample(t *testing.T) {
	x := index.New()
	x.Note(acquiring(1, "a/b"), at(2, 4), 7)
	asks(t, x, closing(2, "a"), at(0, 0), 8, deps{2: 5})
	has(t, x, entry("a/b", 1, 7, deps{2: 5}))
}

// P12.1: no entries; and no two indexes have any together.
func TestNew(t *testing.T) {
	x, y := index.New(), index.New()
	has(t, x)
	for _, c := range kinds(1, "a", "a/b") {
		asks(t, x, c, at(3, 5), 0, deps{3: 5})
	}
	x.Note(closing(1, "a"), at(0, 0), 1)
	has(t, y)
	asks(t, y, closing(1, "a"), at(1, 0), 0, deps{})
	has(t, index.New())
}

// P12.1: an entry has the greatest of all that was noted, in whatever order.
func TestNote(t *testing.T) {
	x := index.New()
	for _, n := range []struct {
		id   mark.ID
		seq  int
		want index.Entry
	}{
		{at(2, 4), 7, entry("a/b", 1, 7, deps{2: 5})},
		{at(2, 4), 7, entry("a/b", 1, 7, deps{2: 5})},
		{at(2, 3), 9, entry("a/b", 1, 9, deps{2: 5})},
		{at(2, 5), 8, entry("a/b", 1, 9, deps{2: 6})},
		{at(2, 0), 0, entry("a/b", 1, 9, deps{2: 6})},
		{at(0, 0), 0, entry("a/b", 1, 9, deps{0: 1, 2: 6})},
		{at(6, 1023), 1, entry("a/b", 1, 9, deps{0: 1, 2: 6, 6: 1024})},
		{at(6, 1022), -5, entry("a/b", 1, 9, deps{0: 1, 2: 6, 6: 1024})},
		{at(5, 70), 10, entry("a/b", 1, 10, deps{0: 1, 2: 6, 5: 71, 6: 1024})},
	} {
		x.Note(acquiring(1, "a/b"), n.id, n.seq)
		has(t, x, n.want)
	}
}

// P12.1: one entry a key: the footprint and the session's number both tell keys apart, and nothing else does.
func TestNoteKeys(t *testing.T) {
	x := index.New()
	for n, c := range kinds(1, "f", "p") {
		x.Note(c, at(n%7, n), n)
	}
	has(t, x, entry("f", 1, 8, deps{1: 9, 2: 3, 3: 4}), entry("p", 1, 7, deps{0: 8, 4: 5, 5: 6, 6: 7}))
	x.Note(closing(1, "p"), at(2, 2), 9)
	x.Note(closing(2, "p"), at(2, 3), 1)
	x.Note(acquiring(1, "p/f"), at(2, 4), 2)
	has(t, x, entry("f", 1, 8, deps{1: 9, 2: 3, 3: 4}), entry("p", 1, 9, deps{0: 8, 2: 3, 4: 5, 5: 6, 6: 7}), entry("p", 2, 1, deps{2: 4}), entry("p/f", 1, 2, deps{2: 5}))
}

// P12.1: of each replica, each slot.
func TestNoteSlots(t *testing.T) {
	for r := range api.MaxReplicas {
		x := index.New()
		for slot := range slots {
			x.Note(closing(7, "a"), at(r, slot), 0)
			var d deps
			d[r] = slot + 1
			has(t, x, entry("a", 7, 0, d))
		}
	}
}

// P12.1: what is noted as Seq is cut to 0 to 2^30.
func TestNoteSeq(t *testing.T) {
	for _, seq := range seqs() {
		want := max(0, min(seq, most))
		x := index.New()
		x.Note(closing(7, "a"), at(1, 1), seq)
		has(t, x, entry("a", 7, want, deps{1: 2}))
		for _, other := range seqs() {
			y := index.New()
			y.Note(closing(7, "a"), at(1, 1), seq)
			y.Note(closing(7, "a"), at(1, 0), other)
			has(t, y, entry("a", 7, max(want, min(other, most)), deps{1: 2}))
		}
	}
}

// P12.1: a command without a key, or a wrong name, notes nothing.
func TestNoteNothing(t *testing.T) {
	x := some()
	was := x.List()
	for _, c := range keyless() {
		x.Note(c, at(0, 1000), 1000)
		index.New().Note(c, at(0, 1000), 1000)
	}
	for _, id := range wrongIDs() {
		x.Note(acquiring(1, "a"), id, 1000)
		x.Note(acquiring(9, "new"), id, 1000)
	}
	has(t, x, was...)
	if len(was) != 5 {
		t.Error(was)
	}
}

// P12.1: the merge of what interferes, by number or by footprint, above and below.
func TestAsk(t *testing.T) {
	x := some()
	id := at(6, 9)
	for _, w := range []struct {
		c   cmd.Cmd
		seq int
		d   deps
	}{
		{closing(9, "a"), 31, deps{0: 5, 1: 7, 2: 9, 6: 9}},
		{closing(9, "a/b"), 21, deps{0: 5, 1: 7, 6: 9}},
		{closing(9, "a/b/d"), 21, deps{0: 5, 1: 7, 6: 9}},
		{closing(9, "a/c"), 31, deps{0: 5, 2: 9, 6: 9}},
		{closing(9, "a/d"), 11, deps{0: 5, 6: 9}},
		{closing(9, "ab"), 51, deps{4: 1, 6: 9}},
		{closing(9, "ab/c"), 51, deps{4: 1, 6: 9}},
		{closing(9, "b"), 41, deps{3: 2, 6: 9}},
		{closing(9, "c"), 0, deps{6: 9}},
		{closing(9, "a-"), 0, deps{6: 9}},
		// By the number alone.
		{closing(1, "c"), 41, deps{0: 5, 3: 2, 6: 9}},
		{closing(2, "c"), 21, deps{1: 7, 6: 9}},
		{closing(4, "c"), 51, deps{4: 1, 6: 9}},
		// By both.
		{closing(1, "a"), 41, deps{0: 5, 1: 7, 2: 9, 3: 2, 6: 9}},
		{closing(3, "a/b"), 31, deps{0: 5, 1: 7, 2: 9, 6: 9}},
		{closing(4, "a"), 51, deps{0: 5, 1: 7, 2: 9, 4: 1, 6: 9}},
		// The Path counts, where there is one, else the session's footprint.
		{kinds(9, "a", "b")[cmd.Try], 41, deps{3: 2, 6: 9}},
		{kinds(9, "a", "b")[cmd.Check], 41, deps{3: 2, 6: 9}},
		{kinds(9, "a/d", "b")[cmd.Expire], 11, deps{0: 5, 6: 9}},
		{kinds(9, "a/d", "b")[cmd.Open], 11, deps{0: 5, 6: 9}},
	} {
		asks(t, x, w.c, id, w.seq, w.d)
	}
}

// P12.1: all numbers of the replica itself are its own, whatever was noted.
func TestAskOwn(t *testing.T) {
	x := index.New()
	var noted deps
	for r := range api.MaxReplicas {
		x.Note(closing(1, "a"), at(r, 100*r+100), 5)
		noted[r] = 100*r + 101
	}
	for r := range api.MaxReplicas {
		for _, slot := range []int{0, 1, 99, 100, 101, 102, 500, 1022, 1023} {
			want := noted
			want[r] = slot
			asks(t, x, closing(2, "a/b"), at(r, slot), 6, want)
			asks(t, x, closing(1, "b"), at(r, slot), 6, want)
			var own deps
			own[r] = slot
			asks(t, x, closing(2, "b"), at(r, slot), 0, own)
			if got := x.Ask(closing(2, "a"), at(r, slot)); !got.Owns(at(r, slot)) {
				t.Error(r, slot, got)
			}
		}
	}
}

// P12.1: Seq is one more than each entry's, but at most 2^30.
func TestAskSeq(t *testing.T) {
	for _, seq := range seqs() {
		x := index.New()
		x.Note(closing(1, "a"), at(0, 0), seq)
		asks(t, x, closing(1, "a"), at(1, 0), min(most, max(0, min(seq, most))+1), deps{0: 1})
	}
	// The greatest one counts, whichever it is.
	x := index.New()
	for n, seq := range []int{3, 9, 1, 8} {
		x.Note(closing(uint64(n), "a"), at(n, 0), seq)
	}
	asks(t, x, closing(10, "a"), at(6, 0), 10, deps{1, 1, 1, 1})
	x.Note(closing(4, "a"), at(4, 0), most-1)
	asks(t, x, closing(10, "a"), at(6, 0), most, deps{1, 1, 1, 1, 1})
	x.Note(closing(5, "a"), at(5, 0), most)
	asks(t, x, closing(10, "a"), at(6, 0), most, deps{1, 1, 1, 1, 1, 1})
}

// P12.1: of a command without a key noughts as the instance's own; as a wrong name all noughts.
func TestAskNothing(t *testing.T) {
	x := some()
	for _, c := range keyless() {
		asks(t, x, c, at(0, 0), 0, deps{})
		asks(t, x, c, at(0, 2), 0, deps{0: 2})
		asks(t, x, c, at(6, 1023), 0, deps{6: 1023})
		for _, id := range wrongIDs() {
			asks(t, x, c, id, 0, deps{})
		}
	}
	for _, id := range wrongIDs() {
		for _, c := range kinds(1, "a", "a") {
			asks(t, x, c, id, 0, deps{})
		}
	}
}

// P12.1: what is asked for isn't noted.
func TestAskChangesNothing(t *testing.T) {
	x := some()
	was := x.List()
	for _, p := range paths() {
		for num := range uint64(6) {
			first := x.Ask(acquiring(num, p), at(0, 900))
			if again := x.Ask(acquiring(num, p), at(0, 900)); again != first {
				t.Error(p, num, first, again)
			}
		}
	}
	has(t, x, was...)
}

// P12.2: an entry that is right is merged with that of its key, or made.
func TestAdd(t *testing.T) {
	x := index.New()
	full := deps{slots, slots, slots, slots, slots, slots, slots}
	for _, a := range []struct {
		e, want index.Entry
	}{
		{entry("a", 1, 5, deps{1, 2, 3}), entry("a", 1, 5, deps{1, 2, 3})},
		{entry("a", 1, 4, deps{2, 1, 3, 4}), entry("a", 1, 5, deps{2, 2, 3, 4})},
		{entry("a", 1, 6, deps{}), entry("a", 1, 6, deps{2, 2, 3, 4})},
		{entry("a", 1, 0, deps{}), entry("a", 1, 6, deps{2, 2, 3, 4})},
		{entry("a", 1, most, full), entry("a", 1, most, full)},
		{entry("a", 1, 7, deps{7}), entry("a", 1, most, full)},
	} {
		if e := x.Add(a.e); e != api.OK {
			t.Error(a.e, e)
		}
		has(t, x, a.want)
	}
	for _, n := range []index.Entry{entry("a", 2, 0, deps{}), entry("a/b", 0, 1, deps{6: 1}), entry("b", math.MaxUint64, 0, deps{5: slots})} {
		if e := x.Add(n); e != api.OK {
			t.Error(n, e)
		}
	}
	has(t, x, entry("a", 1, most, full), entry("a", 2, 0, deps{}), entry("a/b", 0, 1, deps{6: 1}), entry("b", math.MaxUint64, 0, deps{5: slots}))
}

// P12.2: what was added is asked and noted like what was noted.
func TestAddAndNote(t *testing.T) {
	x := index.New()
	x.Add(entry("a/b", 1, 0, deps{}))
	asks(t, x, closing(2, "a"), at(0, 3), 1, deps{0: 3})
	x.Add(entry("a/b", 1, 7, deps{2: 5, 3: slots}))
	asks(t, x, closing(2, "a"), at(0, 3), 8, deps{0: 3, 2: 5, 3: slots})
	x.Note(acquiring(1, "a/b"), at(2, 5), 3)
	x.Note(acquiring(1, "a/b"), at(1, 0), 8)
	has(t, x, entry("a/b", 1, 8, deps{1: 1, 2: 6, 3: slots}))
	x.Add(entry("a/b", 1, 1, deps{2: 7}))
	has(t, x, entry("a/b", 1, 8, deps{1: 1, 2: 7, 3: slots}))
}

// P12.2: an entry that isn't right is refused, and changes nothing, whether its key has one or not.
func TestAddWrong(t *testing.T) {
	x := some()
	was := x.List()
	var l []index.Entry
	for _, p := range wrongs() {
		l = append(l, entry(p, 1, 100, deps{100}), entry(p, 99, 0, deps{}), entry(p, 1, -1, deps{}))
	}
	for _, p := range []string{"a", "a/b", "new"} {
		for _, seq := range []int{-1, most + 1, math.MinInt, math.MaxInt, 1 << 32} {
			l = append(l, entry(p, 1, seq, deps{}))
		}
		for r := range api.MaxReplicas {
			for _, n := range []int{-1, slots + 1, math.MinInt, math.MaxInt, 1 << 32} {
				d := deps{1, 1, 1, 1, 1, 1, 1}
				d[r] = n
				l = append(l, entry(p, 1, 100, d))
			}
		}
	}
	for _, w := range l {
		if e := x.Add(w); e != api.ErrForm {
			t.Error(w, e)
		}
		if y := index.New(); y.Add(w) != api.ErrForm || y.Count() != 0 {
			t.Error(w)
		}
	}
	has(t, x, was...)
}

// P12.2: by the footprint, byte by byte, then by the number, however they came.
func TestList(t *testing.T) {
	nums := []uint64{0, 1, 2, 255, 256, 1 << 32, 1<<63 - 1, 1 << 63, math.MaxUint64}
	var want []index.Entry
	for n, p := range paths() {
		for m, num := range nums {
			want = append(want, entry(p, num, n, deps{m}))
		}
	}
	random := rand.New(rand.NewSource(12))
	for range 20 {
		x := index.New()
		for _, n := range random.Perm(len(want)) {
			if e := x.Add(want[n]); e != api.OK {
				t.Fatal(want[n], e)
			}
		}
		has(t, x, want...)
	}
}

// P12.2
func TestCount(t *testing.T) {
	x := index.New()
	for n := range 300 {
		x.Note(acquiring(uint64(n%150), "a"), at(0, n), n)
		if x.Count() != min(n+1, 150) {
			t.Fatal(n, x.Count())
		}
	}
}

// model is what was noted and added, one behind the other, without a key's being looked up.
type model []index.Entry

// entries are the model's entries.
func (m model) entries() []index.Entry {
	var l []index.Entry
	for _, e := range m {
		n := slices.IndexFunc(l, func(o index.Entry) bool { return o.Key == e.Key })
		if n < 0 {
			n = len(l)
			l = append(l, index.Entry{Key: e.Key})
		}
		l[n].Attr.Seq = max(l[n].Attr.Seq, e.Attr.Seq)
		for r, d := range e.Attr.Deps {
			l[n].Attr.Deps[r] = max(l[n].Attr.Deps[r], d)
		}
	}
	slices.SortFunc(l, func(a, b index.Entry) int {
		if a.Key.Foot != b.Key.Foot {
			return bytes.Compare([]byte(a.Key.Foot), []byte(b.Key.Foot))
		}
		if a.Key.Num < b.Key.Num {
			return -1
		}
		return 1
	})
	return l
}

// ahead is what comes ahead of a command, by the chapter's words.
func (m model) ahead(c cmd.Cmd, id mark.ID) attr.Attr {
	var a attr.Attr
	k, ok := clash.Of(c)
	for _, e := range m {
		if !ok || !id.Right() || !e.Key.Clash(k) {
			continue
		}
		a.Seq = max(a.Seq, min(e.Attr.Seq+1, most))
		for r, d := range e.Attr.Deps {
			a.Deps[r] = max(a.Deps[r], d)
		}
	}
	if id.Right() {
		a.Deps[id.Replica] = id.Slot
	}
	return a
}

// randomCmd is a command, seldom a wrong one.
func randomCmd(random *rand.Rand) cmd.Cmd {
	if random.Intn(12) == 0 {
		l := keyless()
		return l[random.Intn(len(l))]
	}
	p := paths()
	return kinds(uint64(random.Intn(9)), p[random.Intn(len(p))], p[random.Intn(len(p))])[random.Intn(9)]
}

// randomID is a name, seldom a wrong one.
func randomID(random *rand.Rand) mark.ID {
	if random.Intn(12) == 0 {
		l := wrongIDs()
		return l[random.Intn(len(l))]
	}
	return at(random.Intn(7), random.Intn(slots)>>random.Intn(11))
}

// randomSeq is a Seq.
func randomSeq(random *rand.Rand) int {
	if random.Intn(30) == 0 {
		l := seqs()
		return l[random.Intn(len(l))]
	}
	return random.Intn(100) - 3
}

// randomEntry is an entry, seldom a wrong one.
func randomEntry(random *rand.Rand) index.Entry {
	texts := paths()
	if random.Intn(12) == 0 {
		texts = wrongs()
	}
	e := entry(texts[random.Intn(len(texts))], uint64(random.Intn(9)), random.Intn(most+1)>>random.Intn(31), deps{})
	for r := range e.Attr.Deps {
		e.Attr.Deps[r] = random.Intn(slots+1) >> random.Intn(11)
	}
	if random.Intn(12) == 0 {
		e.Attr.Deps[random.Intn(7)] = slots + 1
	}
	return e
}

// step does something at random to an index and to its model.
func step(t *testing.T, random *rand.Rand, x *index.Index, m *model) {
	t.Helper()
	if random.Intn(3) == 0 {
		e := randomEntry(random)
		want := api.ErrForm
		if path.Right(e.Key.Foot) && e.Attr.Right() {
			want = api.OK
			*m = append(*m, e)
		}
		if got := x.Add(e); got != want {
			t.Fatal(e, got)
		}
		return
	}
	c, id, seq := randomCmd(random), randomID(random), randomSeq(random)
	if k, ok := clash.Of(c); ok && id.Right() {
		e := index.Entry{Key: k, Attr: attr.Attr{Seq: max(0, min(seq, most))}}
		e.Attr.Deps[id.Replica] = id.Slot + 1
		*m = append(*m, e)
	}
	x.Note(c, id, seq)
}

// P12.1 and P12.2: anything noted and added, against the chapter's words.
func TestAgainstTheChapter(t *testing.T) {
	random := rand.New(rand.NewSource(120))
	for range 150 {
		x, m := index.New(), model{}
		for range random.Intn(80) {
			step(t, random, x, &m)
			c, id := randomCmd(random), randomID(random)
			if got := x.Ask(c, id); got != m.ahead(c, id) {
				t.Fatalf("%+v %v: %v, not %v", c, id, got, m.ahead(c, id))
			}
			has(t, x, m.entries()...)
		}
		if t.Failed() {
			return
		}
	}
}

// P12.1: what was noted is never taken back: what comes ahead but grows.
func TestNeverTakenBack(t *testing.T) {
	random := rand.New(rand.NewSource(121))
	for range 30 {
		x, m := index.New(), model{}
		c, id := acquiring(3, "a/b"), at(2, 50)
		last, was := x.Ask(c, id), x.List()
		for range 60 {
			step(t, random, x, &m)
			next, l := x.Ask(c, id), x.List()
			if !last.Within(next) {
				t.Fatal(last, next)
			}
			for _, e := range was {
				if n := slices.IndexFunc(l, func(o index.Entry) bool { return o.Key == e.Key }); n < 0 || !e.Attr.Within(l[n].Attr) {
					t.Fatal(e, l)
				}
			}
			last, was = next, l
		}
	}
}

// P12.1: in whatever order it is noted, all is the same.
func TestAnyOrder(t *testing.T) {
	type note struct {
		c   cmd.Cmd
		id  mark.ID
		seq int
	}
	random := rand.New(rand.NewSource(122))
	notes := make([]note, 120)
	for n := range notes {
		notes[n] = note{randomCmd(random), randomID(random), randomSeq(random)}
	}
	x := index.New()
	for _, n := range notes {
		x.Note(n.c, n.id, n.seq)
	}
	for range 30 {
		y := index.New()
		for _, n := range random.Perm(len(notes)) {
			y.Note(notes[n].c, notes[n].id, notes[n].seq)
		}
		has(t, y, x.List()...)
		for range 20 {
			c, id := randomCmd(random), randomID(random)
			if x.Ask(c, id) != y.Ask(c, id) {
				t.Fatal(c, id)
			}
		}
	}
}

// put are the bytes that an entry puts.
func put(e index.Entry) []byte {
	o := new(wire.Out)
	e.Put(o)
	return o.Bytes()
}

// text is a text's bytes, as a thing.
func text(s string) []byte {
	return append(binary.AppendUvarint(nil, uint64(len(s))), s...)
}

// P12.3: the bytes, written out.
func TestPut(t *testing.T) {
	noughts := strings.Repeat("\x00", 8)
	for _, x := range []struct {
		e    index.Entry
		want string
	}{
		{entry("a/b", 1, 7, deps{2: 5}), "\x03a/b" + "\x00\x00\x00\x00\x00\x00\x00\x01" + "\x07\x00\x00\x05\x00\x00\x00\x00"},
		{entry("a", 0x0102030405060708, 300, deps{1, 2, 3, 4, 5, 6, slots}), "\x01a" + "\x01\x02\x03\x04\x05\x06\x07\x08" + "\xac\x02\x01\x02\x03\x04\x05\x06\x80\x08"},
		{entry(longest, math.MaxUint64, most, deps{}), "\x40" + longest + strings.Repeat("\xff", 8) + "\x80\x80\x80\x80\x04\x00\x00\x00\x00\x00\x00\x00"},
		// What isn't right is put, too: the footprint and the number as they are, the attributes as layer 9 puts them.
		{index.Entry{}, "\x00" + noughts + noughts},
		{entry("A//", 0, 1, deps{1}), "\x03A//" + noughts + "\x01\x01\x00\x00\x00\x00\x00\x00"},
		{entry("a", 0, -1, deps{1}), "\x01a" + noughts + noughts},
		{entry("a", 0, 1, deps{6: slots + 1}), "\x01a" + noughts + noughts},
		{entry(longest+longest+"x", 0, 0, deps{}), "\x81\x01" + longest + longest + "x" + noughts + noughts},
	} {
		if got := put(x.e); string(got) != x.want {
			t.Errorf("%v %x", x.e, got)
		}
	}
}

// P12.3: entries stand behind what was put, and are taken from there, to the byte.
func TestPutBehind(t *testing.T) {
	o := new(wire.Out).Byte(9)
	l := some().List()
	for _, e := range l {
		e.Put(o)
	}
	in := wire.NewIn(o.Byte(8).Bytes())
	if b := in.Byte(); b != 9 {
		t.Error(b)
	}
	for _, e := range l {
		if got := index.Take(in); got != e {
			t.Error(got, e)
		}
	}
	if in.Left() != 1 || in.Byte() != 8 || in.End() != api.OK {
		t.Error(in.Left(), in.End())
	}
}

// P12.3, with P12.2: an index whose entries are put, taken and added is the same one.
func TestThroughBytes(t *testing.T) {
	random := rand.New(rand.NewSource(123))
	for range 50 {
		x, y, m := index.New(), index.New(), model{}
		for range 60 {
			step(t, random, x, &m)
		}
		for _, e := range x.List() {
			in := wire.NewIn(put(e))
			got := index.Take(in)
			if got != e || in.End() != api.OK {
				t.Fatal(e, got, in.End())
			}
			if y.Add(got) != api.OK {
				t.Fatal(got)
			}
		}
		has(t, y, x.List()...)
	}
}

// isRefused tells that taking fails with an error, and that nothing is told beside it.
func isRefused(t *testing.T, e api.Errno, parts ...[]byte) {
	t.Helper()
	b := slices.Concat(parts...)
	in := wire.NewIn(b)
	if got := index.Take(in); got != (index.Entry{}) || !in.Failed() || in.End() != e || in.Left() != 0 {
		t.Errorf("%x %v %v, not %v", b, got, in.End(), e)
	}
}

// P12.3: each part's errors, of which the first one is the one that stays.
func TestTakeWrong(t *testing.T) {
	foot, num, attrs := text("a/b"), bytes.Repeat([]byte{7}, 8), bytes.Repeat([]byte{1}, 8)
	isRefused(t, api.ErrShort)
	isRefused(t, api.ErrShort, []byte{0x80})
	isRefused(t, api.ErrForm, []byte{0x83, 0}, []byte("a/b"), num, attrs)
	isRefused(t, api.ErrShort, []byte{64}, []byte("a/b"), num, attrs)
	isRefused(t, api.ErrRange, []byte{65}, []byte("a/b"), num, attrs)
	isRefused(t, api.ErrRange, []byte{65})
	isRefused(t, api.ErrRange, text(longest+"x"), num, attrs)
	isRefused(t, api.ErrRange, bytes.Repeat([]byte{0xff}, 9), []byte{1}, num, attrs)
	for n := range num {
		isRefused(t, api.ErrShort, foot, num[:n])
	}
	for n := range attrs {
		isRefused(t, api.ErrShort, foot, num, attrs[:n])
		isRefused(t, api.ErrForm, foot, num, attrs[:n], []byte{0x80, 0}, attrs)
		isRefused(t, api.ErrRange, foot, num, attrs[:n], binary.AppendUvarint(nil, most+1), attrs)
		isRefused(t, api.ErrShort, foot, num, attrs[:n], []byte{0x80})
	}
	isRefused(t, api.ErrRange, foot, num, attrs[:7], binary.AppendUvarint(nil, slots+1))
	in := wire.NewIn(slices.Concat(foot, num, attrs, []byte{5}))
	if got := index.Take(in); got != entry("a/b", 0x0707070707070707, 1, deps{1, 1, 1, 1, 1, 1, 1}) || in.Failed() || in.Left() != 1 {
		t.Error(got, in.End())
	}
}

// P12.3: the footprint is looked at last: behind the errors of all parts.
func TestTakeNoPath(t *testing.T) {
	num, attrs := bytes.Repeat([]byte{7}, 8), bytes.Repeat([]byte{1}, 8)
	for _, p := range wrongs() {
		if len(p) > api.MaxPath {
			isRefused(t, api.ErrRange, text(p), num, attrs)
			continue
		}
		isRefused(t, api.ErrForm, text(p), num, attrs)
		isRefused(t, api.ErrForm, text(p), num, attrs, attrs)
		isRefused(t, api.ErrShort, text(p))
		isRefused(t, api.ErrShort, text(p), num[:7])
		isRefused(t, api.ErrShort, text(p), num, attrs[:7])
		isRefused(t, api.ErrRange, text(p), num, binary.AppendUvarint(nil, most+1), attrs)
		isRefused(t, api.ErrRange, text(p), num, attrs[:7], binary.AppendUvarint(nil, slots+1))
	}
	for _, p := range paths() {
		in := wire.NewIn(slices.Concat(text(p), num, attrs))
		if got := index.Take(in); got.Key.Foot != p || in.End() != api.OK {
			t.Error(p, got, in.End())
		}
	}
}

// P12.3: an input that has failed keeps its error, and nothing is taken from it.
func TestTakeFromFailed(t *testing.T) {
	right := put(entry("a/b", 1, 7, deps{2: 5}))
	for _, e := range []api.Errno{api.ErrForm, api.ErrShort, api.ErrSum, 99, -1} {
		for _, b := range [][]byte{nil, right, put(entry("A", 1, 7, deps{}))} {
			in := wire.NewIn(b)
			in.Fail(e)
			if got := index.Take(in); got != (index.Entry{}) || in.End() != e {
				t.Error(got, in.End())
			}
		}
	}
	in := wire.NewIn(append(put(entry("A", 1, 7, deps{})), right...))
	for range 2 {
		if got := index.Take(in); got != (index.Entry{}) || in.End() != api.ErrForm {
			t.Error(got, in.End())
		}
	}
}

// holdBytes holds what is taken from bytes against the parts, one behind the other.
func holdBytes(t *testing.T, b []byte) {
	t.Helper()
	in, parts := wire.NewIn(b), wire.NewIn(b)
	foot := parts.Text(64)
	num := parts.Fixed()
	want := index.Entry{Key: clash.Key{Foot: foot, Num: num}, Attr: attr.Take(parts)}
	if !path.Right(foot) {
		parts.Fail(api.ErrForm)
	}
	if parts.Failed() {
		want = index.Entry{}
	}
	got := index.Take(in)
	if got != want || in.Failed() != parts.Failed() || in.Left() != parts.Left() || in.End() != parts.End() {
		t.Fatalf("%x %v %v, not %v %v", b, got, in.End(), want, parts.End())
	}
	if !in.Failed() && (!bytes.Equal(put(got), b[:len(b)-in.Left()]) || index.New().Add(got) != api.OK) {
		t.Fatalf("%x %v", b, got)
	}
}

// P12.3: of any bytes the entry that is there, or the first error.
func TestTakeAgainstTheChapter(t *testing.T) {
	random := rand.New(rand.NewSource(124))
	for _, e := range some().List() {
		b := put(e)
		for n := range b {
			holdBytes(t, b[:n])
			for v := range 256 {
				spoilt := bytes.Clone(b)
				spoilt[n] = byte(v)
				holdBytes(t, spoilt)
			}
		}
	}
	for range 30000 {
		b := put(randomEntry(random))
		for range random.Intn(3) {
			b[random.Intn(len(b))] ^= 1 << random.Intn(8)
		}
		if random.Intn(4) == 0 {
			b = b[:random.Intn(len(b)+1)]
		}
		holdBytes(t, b)
	}
}

// P12.3
func FuzzTake(f *testing.F) {
	for _, e := range some().List() {
		f.Add(put(e))
	}
	f.Add(put(entry("A", 1, -1, deps{})))
	f.Fuzz(holdBytes)
}

// P1 and P12.1: whatever is noted and asked, all is as the chapter's words say.
func FuzzIndex(f *testing.F) {
	for n, p := range append(paths(), wrongs()...) {
		f.Add(uint64(n%3), p, n%8, n*37, n*1000-5, uint64(n%2), "a/b", n%7, n)
	}
	f.Fuzz(func(t *testing.T, num uint64, foot string, replica, slot, seq int, other uint64, above string, r, s int) {
		x, m := index.New(), model{}
		c, id := closing(num, foot), at(replica, slot)
		x.Note(c, id, seq)
		if c.Right() && id.Right() {
			e := entry(foot, num, max(0, min(seq, most)), deps{})
			e.Attr.Deps[replica] = slot + 1
			m = append(m, e)
		}
		e := entry(above, other, seq, deps{r, s})
		if x.Add(e) == api.OK {
			m = append(m, e)
		}
		has(t, x, m.entries()...)
		for _, d := range []cmd.Cmd{c, closing(other, above), acquiring(num, above), acquiring(other, foot)} {
			if got := x.Ask(d, at(r, s)); got != m.ahead(d, at(r, s)) {
				t.Errorf("%+v %v %v", d, got, m.ahead(d, at(r, s)))
			}
		}
	})
}

// where tells where a text's bytes stand.
func where(s string) uintptr {
	return uintptr(unsafe.Pointer(unsafe.StringData(s)))
}

// over is the text that stands in bytes, and changes with them.
func over(b []byte) string {
	return unsafe.String(unsafe.SliceData(b), len(b))
}

// P12.1 and P12.2: what is handed in isn't kept, where there is no entry yet and where there is one.
func TestMemoryOfWhatIsHandedIn(t *testing.T) {
	for _, hand := range []func(x *index.Index, foot string){
		func(x *index.Index, foot string) { x.Note(closing(1, foot), at(0, 0), 1) },
		func(x *index.Index, foot string) { x.Note(acquiring(1, foot), at(0, 0), 1) },
		func(x *index.Index, foot string) { x.Add(entry(foot, 1, 1, deps{1})) },
	} {
		x := index.New()
		for range 3 {
			b := []byte("a/b/c")
			hand(x, over(b))
			x.Ask(closing(1, over(b)), at(0, 0))
			b[0] = 'z'
			has(t, x, entry("a/b/c", 1, 1, deps{1}))
			asks(t, x, closing(2, "a"), at(1, 0), 2, deps{1})
		}
	}
}

// P12.2: what is told is new, and shares nothing with another answer.
func TestMemoryOfWhatIsTold(t *testing.T) {
	x := some()
	first, second := x.List(), x.List()
	was := slices.Clone(second)
	for n := range first {
		if where(first[n].Key.Foot) == where(second[n].Key.Foot) {
			t.Error(first[n])
		}
	}
	clear(first[:cap(first)])
	if !slices.Equal(second, was) {
		t.Error(second)
	}
	has(t, x, was...)
}

// P12.3: what is taken isn't the bytes' own memory, and neither putting nor taking changes anything.
func TestMemoryOfBytes(t *testing.T) {
	e := entry("a/b", 1, 7, deps{2: 5})
	b := put(e)
	was := bytes.Clone(b)
	got := index.Take(wire.NewIn(b))
	if !bytes.Equal(b, was) {
		t.Errorf("%x", b)
	}
	clear(b)
	if got != e || !bytes.Equal(put(e), was) {
		t.Error(got)
	}
}

// P1 and P12.1: as many entries as instances may have, each asked for, in short time.
func TestManyEntries(t *testing.T) {
	x := index.New()
	for r := range api.MaxReplicas {
		for slot := range slots {
			x.Note(acquiring(uint64(r)<<20|uint64(slot), fmt.Sprintf("a/%d/%d", r, slot)), at(r, slot), slot)
		}
	}
	if x.Count() != api.MaxReplicas*slots || len(x.List()) != x.Count() {
		t.Error(x.Count())
	}
	asks(t, x, closing(1<<40, "a"), at(0, 7), slots, deps{7, slots, slots, slots, slots, slots, slots})
	for slot := range slots {
		asks(t, x, closing(1<<40, fmt.Sprintf("a/3/%d/x", slot)), at(0, 7), slot+1, deps{0: 7, 3: slot + 1})
	}
}
