package mark_test

import (
	"bytes"
	"encoding/binary"
	"fmt"
	"math"
	"math/big"
	"math/rand"
	"regexp"
	"slices"
	"strings"
	"testing"

	"moothill/api"
	"moothill/mark"
	"moothill/wire"
)

const (
	slots     = 1024
	rounds    = 1 << 24
	noReplica = 7
)

// edges gives numbers at which something ends, and some beside them.
func edges() []int {
	l := []int{math.MinInt, math.MinInt + 1, math.MaxInt - 1, math.MaxInt}
	for _, n := range []int{0, 6, 7, 255, 256, slots, rounds, 1 << 29, 1 << 31, 1 << 32, 1 << 33, 1<<32 + slots, 1 << 56, 1 << 62} {
		for d := -2; d <= 2; d++ {
			l = append(l, n+d, -(n + d))
		}
	}
	slices.Sort(l)
	return slices.Compact(l)
}

// names gives names, right and wrong ones.
func names() []mark.ID {
	var l []mark.ID
	for _, r := range edges() {
		for _, s := range edges() {
			l = append(l, mark.ID{Replica: r, Slot: s})
		}
	}
	return l
}

// rightNames gives all right names, in their order.
func rightNames() []mark.ID {
	var l []mark.ID
	for r := range noReplica {
		for s := range slots {
			l = append(l, mark.ID{Replica: r, Slot: s})
		}
	}
	return l
}

// isName tells whether a name may be.
func isName(i mark.ID) bool {
	return i.Replica >= 0 && i.Replica <= 6 && i.Slot >= 0 && i.Slot <= 1023
}

// ballots gives numbers that are ballots, and such that aren't.
func ballots() []mark.Ballot {
	var l []mark.Ballot
	for _, round := range []uint32{0, 1, 2, 3, 15, 16, 127, 128, 1023, 1 << 13, 1<<21 - 1, 1 << 21, rounds - 2, rounds - 1, rounds, rounds + 1, 1<<28 - 1, 1 << 28, 1<<29 - 2, 1<<29 - 1} {
		for r := range uint32(8) {
			l = append(l, mark.Ballot(round*8+r))
		}
	}
	random := rand.New(rand.NewSource(6))
	for range 2000 {
		l = append(l, mark.Ballot(random.Uint32()), mark.Ballot(random.Uint32()>>5), mark.Ballot(random.Uint32()>>20))
	}
	return l
}

// isBallot tells whether a number is a ballot.
func isBallot(b mark.Ballot) bool {
	return b == 0 || b/8 >= 1 && b/8 <= 16777215 && b%8 <= 6
}

// P6.1
func TestRightNames(t *testing.T) {
	for _, x := range []struct {
		replica, slot int
		want          bool
	}{
		{0, 0, true}, {6, 1023, true}, {0, 1023, true}, {6, 0, true}, {3, 500, true},
		{7, 0, false}, {6, 1024, false}, {7, 1024, false}, {0, 1024, false},
		{-1, 0, false}, {0, -1, false}, {-1, -1, false}, {8, 8, false},
		{1 << 32, 0, false}, {0, 1 << 32, false}, {math.MinInt, 0, false}, {0, math.MinInt, false},
		{math.MaxInt, 0, false}, {0, math.MaxInt, false},
	} {
		if got := (mark.ID{Replica: x.replica, Slot: x.slot}).Right(); got != x.want {
			t.Error(x, got)
		}
	}
	for _, i := range append(names(), rightNames()...) {
		if i.Right() != isName(i) {
			t.Error(i, i.Right())
		}
	}
}

// P6.1
func TestWord(t *testing.T) {
	for _, x := range []struct {
		i    mark.ID
		want uint64
	}{
		{mark.ID{}, 0},
		{mark.ID{Slot: 1}, 1},
		{mark.ID{Slot: 1023}, 0x3ff},
		{mark.ID{Replica: 1}, 0x100000000},
		{mark.ID{Replica: 5, Slot: 258}, 0x500000102},
		{mark.ID{Replica: 6, Slot: 1023}, 0x6000003ff},
		{mark.ID{Replica: 6, Slot: 1024}, 0},
		{mark.ID{Replica: 7, Slot: 1}, 0},
		{mark.ID{Replica: -1, Slot: 1}, 0},
		{mark.ID{Replica: 1, Slot: -1}, 0},
	} {
		if got := x.i.Word(); got != x.want {
			t.Errorf("%v %x", x.i, got)
		}
	}
	for _, i := range names() {
		want := uint64(0)
		if isName(i) {
			want = uint64(i.Replica)*(1<<32) + uint64(i.Slot)
		}
		if got := i.Word(); got != want {
			t.Errorf("%v %x", i, got)
		}
	}
}

// P6.1: each right name has a word of its own, by which it is found, and the words are in the names' order.
func TestWordsOfAllNames(t *testing.T) {
	last := uint64(0)
	for n, i := range rightNames() {
		w := i.Word()
		if n > 0 && w <= last {
			t.Fatal(i, w, last)
		}
		last = w
		if got, e := mark.OfWord(w); got != i || e != api.OK {
			t.Fatal(i, w, got, e)
		}
	}
}

// P6.1
func TestOfWord(t *testing.T) {
	for _, w := range []uint64{
		1024, 1025, 1 << 31, 1<<32 - 1, 0x700000000, 0x7000003ff, 0x800000000, 0x600000400, 0x6ffffffff,
		0x100000400, 0x1000000000, 1 << 40, 1 << 62, 1 << 63, 1<<63 + 1, math.MaxUint64, math.MaxUint64 - 1,
		0xffffffff00000000, 0x8000000100000001, 0x0000010000000001,
	} {
		if i, e := mark.OfWord(w); i != (mark.ID{}) || e != api.ErrRange {
			t.Errorf("%x %v %v", w, i, e)
		}
	}
	var words []uint64
	for bit := range 64 {
		words = append(words, 1<<bit, 1<<bit-1, 1<<bit|1<<32|5, 6<<32|1023+1<<bit, 6<<32|1023-1<<bit)
	}
	for _, w := range words {
		want, e := mark.ID{Replica: int(w / (1 << 32)), Slot: int(w % (1 << 32))}, api.OK
		if !isName(want) {
			want, e = mark.ID{}, api.ErrRange
		}
		if got, err := mark.OfWord(w); got != want || err != e {
			t.Errorf("%x %v %v", w, got, err)
		}
	}
}

// P6.1: of right and wrong names alike.
func TestCompareNames(t *testing.T) {
	for _, x := range []struct {
		a, b mark.ID
		want int
	}{
		{mark.ID{}, mark.ID{}, 0},
		{mark.ID{Replica: 1}, mark.ID{Slot: 1023}, 1},
		{mark.ID{Slot: 1023}, mark.ID{Replica: 1}, -1},
		{mark.ID{Replica: 3, Slot: 4}, mark.ID{Replica: 3, Slot: 5}, -1},
		{mark.ID{Replica: 3, Slot: 5}, mark.ID{Replica: 3, Slot: 4}, 1},
		{mark.ID{Replica: 3, Slot: 5}, mark.ID{Replica: 3, Slot: 5}, 0},
		{mark.ID{Replica: 2, Slot: 9}, mark.ID{Replica: 6, Slot: 1}, -1},
		{mark.ID{Replica: math.MinInt}, mark.ID{Replica: math.MaxInt}, -1},
		{mark.ID{Replica: math.MaxInt}, mark.ID{Replica: math.MinInt}, 1},
		{mark.ID{Slot: math.MinInt}, mark.ID{Slot: math.MaxInt}, -1},
		{mark.ID{Slot: math.MaxInt}, mark.ID{Slot: math.MinInt}, 1},
		{mark.ID{Replica: -1, Slot: 9}, mark.ID{Replica: 0, Slot: -9}, -1},
	} {
		if got := x.a.Compare(x.b); got != x.want {
			t.Error(x, got)
		}
	}
	// These come from rising numbers, so their places are their order.
	var l []mark.ID
	for n, i := range names() {
		if n%7 == 0 || n%67 == 3 {
			l = append(l, i)
		}
	}
	for x, a := range l {
		for y, b := range l {
			want := 0
			if x < y {
				want = -1
			}
			if x > y {
				want = 1
			}
			if got := a.Compare(b); got != want {
				t.Fatal(a, b, got)
			}
		}
	}
}

// P6.2
func TestBallotsAndTheirParts(t *testing.T) {
	for _, x := range []struct {
		b              mark.Ballot
		round, replica int
		right          bool
	}{
		{0, 0, 0, true},
		{1, 0, 1, false}, {6, 0, 6, false}, {7, 0, 7, false},
		{8, 1, 0, true}, {10, 1, 2, true}, {14, 1, 6, true}, {15, 1, 7, false}, {16, 2, 0, true},
		{0x7fffff8, rounds - 1, 0, true}, {0x7fffffe, rounds - 1, 6, true}, {0x7ffffff, rounds - 1, 7, false},
		{0x8000000, rounds, 0, false}, {0x8000006, rounds, 6, false}, {0x80000000, 1 << 28, 0, false},
		{0xfffffff8, 1<<29 - 1, 0, false}, {0xfffffffe, 1<<29 - 1, 6, false}, {math.MaxUint32, 1<<29 - 1, 7, false},
	} {
		if x.b.Right() != x.right || x.b.Round() != x.round || x.b.Replica() != x.replica {
			t.Error(x, x.b.Right(), x.b.Round(), x.b.Replica())
		}
	}
	for _, b := range ballots() {
		if b.Right() != isBallot(b) || b.Round() != int(b/8) || b.Replica() != int(b%8) {
			t.Error(b, b.Right(), b.Round(), b.Replica())
		}
	}
}

// P6.2
func TestNext(t *testing.T) {
	for _, x := range []struct {
		b    mark.Ballot
		r    int
		want mark.Ballot
		e    api.Errno
	}{
		{0, 0, 8, api.OK}, {0, 2, 10, api.OK}, {0, 6, 14, api.OK},
		{10, 0, 16, api.OK}, {10, 2, 18, api.OK}, {14, 0, 16, api.OK}, {8, 6, 22, api.OK},
		// Of numbers that are no ballots, too: of their rounds.
		{7, 1, 9, api.OK}, {3, 0, 8, api.OK}, {15, 6, 22, api.OK},
		{0x7fffff0, 6, 0x7fffffe, api.OK}, {0x7fffff7, 0, 0x7fffff8, api.OK},
		{0x7fffff8, 0, 0, api.ErrBallot}, {0x7fffffe, 6, 0, api.ErrBallot}, {0x8000000, 0, 0, api.ErrBallot},
		{0x80000000, 3, 0, api.ErrBallot}, {math.MaxUint32, 0, 0, api.ErrBallot}, {0xfffffff8, 1, 0, api.ErrBallot},
		{0, 7, 0, api.ErrRange}, {0, -1, 0, api.ErrRange}, {10, 8, 0, api.ErrRange}, {0, 256, 0, api.ErrRange},
		{0, math.MinInt, 0, api.ErrRange}, {0, math.MaxInt, 0, api.ErrRange}, {0, 1 << 32, 0, api.ErrRange},
		// Both are wrong: the replica is said first.
		{0x7fffff8, 7, 0, api.ErrRange}, {math.MaxUint32, -1, 0, api.ErrRange},
	} {
		if got, e := x.b.Next(x.r); got != x.want || e != x.e {
			t.Error(x, got, e)
		}
	}
}

// P6.2: the next one is above, a ballot of that replica, in the round behind.
func TestNextOfMany(t *testing.T) {
	for _, b := range ballots() {
		for _, r := range edges() {
			got, e := b.Next(r)
			switch {
			case r < 0 || r > 6:
				if got != 0 || e != api.ErrRange {
					t.Fatal(b, r, got, e)
				}
			case b/8 >= rounds-1:
				if got != 0 || e != api.ErrBallot {
					t.Fatal(b, r, got, e)
				}
			case e != api.OK || got <= b || got/8 != b/8+1 || got%8 != mark.Ballot(r) || !got.Right():
				t.Fatal(b, r, got, e)
			}
		}
	}
}

// P6.2: two replicas' ballots are never the same one, from wherever they go on.
func TestBallotsAreOnesOwn(t *testing.T) {
	owner := map[mark.Ballot]int{}
	for _, b := range ballots() {
		for r := range noReplica {
			n, e := b.Next(r)
			if e != api.OK {
				continue
			}
			if was, ok := owner[n]; ok && was != r {
				t.Fatal(n, was, r)
			}
			owner[n] = r
		}
	}
}

// put gives the bytes of something that is put.
func put(f func(*wire.Out)) []byte {
	o := new(wire.Out)
	f(o)
	return o.Bytes()
}

// P6.3
func TestPutName(t *testing.T) {
	for _, x := range []struct {
		i    mark.ID
		want string
	}{
		{mark.ID{}, "\x00\x00"},
		{mark.ID{Replica: 6, Slot: 1023}, "\x06\xff\x07"},
		{mark.ID{Replica: 3, Slot: 127}, "\x03\x7f"},
		{mark.ID{Replica: 3, Slot: 128}, "\x03\x80\x01"},
		// Wrong ones as they are.
		{mark.ID{Replica: 7, Slot: 1024}, "\x07\x80\x08"},
		{mark.ID{Replica: 256, Slot: 1}, "\x00\x01"},
		{mark.ID{Replica: 513, Slot: 1}, "\x01\x01"},
		{mark.ID{Replica: -1, Slot: 1}, "\xff\x01"},
		{mark.ID{Replica: -256, Slot: 1 << 32}, "\x00\x80\x80\x80\x80\x10"},
		{mark.ID{Slot: -1}, "\x00\xff\xff\xff\xff\xff\xff\xff\xff\xff\x01"},
		{mark.ID{Slot: math.MinInt}, "\x00\x80\x80\x80\x80\x80\x80\x80\x80\x80\x01"},
	} {
		if got := put(x.i.Put); string(got) != x.want {
			t.Errorf("%v %x", x.i, got)
		}
	}
	for _, i := range names() {
		if got := put(i.Put); !bytes.Equal(got, binary.AppendUvarint([]byte{byte(i.Replica)}, uint64(i.Slot))) {
			t.Errorf("%v %x", i, got)
		}
	}
}

// P6.3: names and ballots stand behind what was put, and are taken from there, to the byte.
func TestPutBehind(t *testing.T) {
	o := new(wire.Out).Byte(9)
	mark.ID{Replica: 2, Slot: 300}.Put(o)
	mark.Ballot(1000).Put(o)
	mark.ID{Replica: 5, Slot: 1}.Put(o)
	o.Byte(8)
	if got := o.Bytes(); string(got) != "\x09\x02\xac\x02\xe8\x07\x05\x01\x08" {
		t.Errorf("%x", got)
	}
	in := wire.NewIn(o.Bytes())
	if b := in.Byte(); b != 9 {
		t.Error(b)
	}
	if i := mark.TakeID(in); i != (mark.ID{Replica: 2, Slot: 300}) {
		t.Error(i)
	}
	if b := mark.TakeBallot(in); b != 1000 {
		t.Error(b)
	}
	if i := mark.TakeID(in); i != (mark.ID{Replica: 5, Slot: 1}) {
		t.Error(i)
	}
	if in.Left() != 1 || in.Byte() != 8 || in.End() != api.OK {
		t.Error(in.Left(), in.End())
	}
}

// P6.3
func TestTakeName(t *testing.T) {
	for _, i := range rightNames() {
		in := wire.NewIn(put(i.Put))
		if got := mark.TakeID(in); got != i || in.End() != api.OK {
			t.Fatal(i, got, in.End())
		}
	}
	for _, x := range []struct {
		b string
		e api.Errno
	}{
		{"", api.ErrShort},
		{"\x00", api.ErrShort},
		{"\x06", api.ErrShort},
		{"\x06\x80", api.ErrShort},
		{"\x07\x00", api.ErrRange},
		{"\x08\x01", api.ErrRange},
		{"\xff\x00", api.ErrRange},
		{"\x00\x80\x08", api.ErrRange},
		{"\x06\xff\xff\xff\xff\xff\xff\xff\xff\xff\x01", api.ErrRange},
		{"\x06\x80\x00", api.ErrForm},
		{"\x06\xff\xff\xff\xff\xff\xff\xff\xff\xff\x02", shortError("\xff\xff\xff\xff\xff\xff\xff\xff\xff\x02")},
		// The byte is wrong, and the short number, too: the byte's error is the one.
		{"\x07", api.ErrRange},
		{"\x07\x80", api.ErrRange},
		{"\x07\x80\x00", api.ErrRange},
		{"\xff\xff\xff\xff\xff\xff\xff\xff\xff\xff\x02", api.ErrRange},
		{"\x07\x80\x08", api.ErrRange},
	} {
		in := wire.NewIn([]byte(x.b))
		if got := mark.TakeID(in); got != (mark.ID{}) || !in.Failed() || in.End() != x.e || in.Left() != 0 {
			t.Errorf("%x %v %v", x.b, got, in.End())
		}
	}
}

// shortError is what layer 3 says of a short number.
func shortError(b string) api.Errno {
	in := wire.NewIn([]byte(b))
	in.Short(math.MaxUint64)
	return in.End()
}

// P6.3: of each byte, with each kind of short number behind it.
func TestTakeNameOfEachByte(t *testing.T) {
	for b := range 256 {
		for _, s := range []string{"", "\x80", "\x80\x00", "\x05", "\xff\x07", "\x80\x08"} {
			in := wire.NewIn(append([]byte{byte(b)}, s...))
			short := wire.NewIn([]byte(s))
			want, e := mark.ID{Replica: b, Slot: int(short.Short(1023))}, short.End()
			if b > 6 {
				e = api.ErrRange
			}
			if e != api.OK {
				want = mark.ID{}
			}
			if got := mark.TakeID(in); got != want || in.End() != e {
				t.Errorf("%x %x %v %v", b, s, got, in.End())
			}
		}
	}
}

// P6.3
func TestPutAndTakeBallot(t *testing.T) {
	for _, b := range ballots() {
		all := put(b.Put)
		if !bytes.Equal(all, binary.AppendUvarint(nil, uint64(b))) {
			t.Fatalf("%v %x", b, all)
		}
		in := wire.NewIn(all)
		got := mark.TakeBallot(in)
		if isBallot(b) && (got != b || in.End() != api.OK) {
			t.Fatal(b, got, in.End())
		}
		if !isBallot(b) && (got != 0 || in.End() != api.ErrBallot) {
			t.Fatal(b, got, in.End())
		}
	}
}

// P6.3
func TestTakeWrongBallot(t *testing.T) {
	for _, x := range []struct {
		b string
		e api.Errno
	}{
		{"", api.ErrShort},
		{"\x80", api.ErrShort},
		{"\x88\x00", api.ErrForm},
		{"\x01", api.ErrBallot},
		{"\x07", api.ErrBallot},
		{"\x0f", api.ErrBallot},
		{"\x80\x80\x80\x40", api.ErrBallot},
		{"\xff\xff\xff\xff\x0f", api.ErrBallot},
		{"\x80\x80\x80\x80\x10", api.ErrRange},
		{"\x88\x80\x80\x80\x10", api.ErrRange},
		{"\x8a\x80\x80\x80\x80\x01", api.ErrRange},
		{"\xff\xff\xff\xff\xff\xff\xff\xff\xff\x01", api.ErrRange},
	} {
		in := wire.NewIn([]byte(x.b))
		if got := mark.TakeBallot(in); got != 0 || !in.Failed() || in.End() != x.e || in.Left() != 0 {
			t.Errorf("%x %v %v", x.b, got, in.End())
		}
	}
}

// P6.3: an input that has failed keeps its error, and all that is taken from it is zero.
func TestTakeFromFailed(t *testing.T) {
	for _, e := range []api.Errno{api.ErrForm, api.ErrShort, api.ErrSum, 99, -1} {
		in := wire.NewIn([]byte("\x05\x01\x0a\x07\x07"))
		in.Fail(e)
		if i := mark.TakeID(in); i != (mark.ID{}) || in.End() != e {
			t.Error(i, in.End())
		}
		if b := mark.TakeBallot(in); b != 0 || in.End() != e {
			t.Error(b, in.End())
		}
	}
	in := wire.NewIn([]byte("\x07\x01\x05\x01\x0a"))
	if i := mark.TakeID(in); i != (mark.ID{}) || in.End() != api.ErrRange {
		t.Error(i, in.End())
	}
	if i := mark.TakeID(in); i != (mark.ID{}) || in.End() != api.ErrRange {
		t.Error(i, in.End())
	}
	if b := mark.TakeBallot(in); b != 0 || in.End() != api.ErrRange {
		t.Error(b, in.End())
	}
	in = wire.NewIn([]byte("\x07\x0a\x07\x01"))
	if b := mark.TakeBallot(in); b != 0 || in.End() != api.ErrBallot {
		t.Error(b, in.End())
	}
	if b := mark.TakeBallot(in); b != 0 || in.End() != api.ErrBallot {
		t.Error(b, in.End())
	}
	if i := mark.TakeID(in); i != (mark.ID{}) || in.End() != api.ErrBallot {
		t.Error(i, in.End())
	}
}

// P6.4
func TestShow(t *testing.T) {
	for _, i := range append(names(), rightNames()...) {
		s, e := i.Show()
		if !isName(i) {
			if s != "" || e != api.ErrRange {
				t.Fatal(i, s, e)
			}
			continue
		}
		if s != fmt.Sprintf("%d.%d", i.Replica, i.Slot) || e != api.OK {
			t.Fatal(i, s, e)
		}
		if got, e := mark.ReadID(s); got != i || e != api.OK {
			t.Fatal(i, s, got, e)
		}
	}
	for _, b := range ballots() {
		s, e := b.Show()
		if !isBallot(b) {
			if s != "" || e != api.ErrBallot {
				t.Fatal(b, s, e)
			}
			continue
		}
		if s != fmt.Sprintf("%d.%d", b/8, b%8) || e != api.OK {
			t.Fatal(b, s, e)
		}
		if got, e := mark.ReadBallot(s); got != b || e != api.OK {
			t.Fatal(b, s, got, e)
		}
	}
}

// P6.4
func TestShowSome(t *testing.T) {
	for i, want := range map[mark.ID]string{{}: "0.0", {Replica: 6, Slot: 1023}: "6.1023", {Replica: 2, Slot: 10}: "2.10"} {
		if s, e := i.Show(); s != want || e != api.OK {
			t.Error(i, s, e)
		}
	}
	for b, want := range map[mark.Ballot]string{0: "0.0", 10: "1.2", 16: "2.0", 0x7fffffe: "16777215.6", 8 * 1000: "1000.0"} {
		if s, e := b.Show(); s != want || e != api.OK {
			t.Error(b, s, e)
		}
	}
}

// badForms gives texts that are no two numbers' text.
func badForms() []string {
	l := []string{
		"", ".", "..", "0", "1", "1.", ".1", "1..2", "1.2.", ".1.2", "1.2.3", "0.0.0", "-", "-.-", "-.0", "0.-", "1,2", "1:2",
		"00.0", "0.00", "01.2", "1.02", "001.2", "1.0000", "-0.0", "0.-0", "-01.2", "1.-02", "--1.2", "1.--2", "1-.2", "1.2-", "-1-.0",
		"+1.2", "1.+2", "+0.0", "0.+0", " 1.2", "1.2 ", "1 .2", "1. 2", "1.2\n", "\t1.2", "1.2\x00", "\x001.2",
		"1_0.2", "1.1_0", "0x1.2", "1.0x2", "0b1.0", "0o1.0", "1e1.2", "1.2e1", "a.b", "1.b", "a.1", "1.2a", "NaN.1", "inf.1", "1.Inf",
		"9223372036854775808.0", "0.9223372036854775808", "-9223372036854775809.0", "0.-9223372036854775809",
		"18446744073709551616.0", "0.18446744073709551616", "18446744073709551615.1", "99999999999999999999.99999999999999999999",
		"\xff.1", "1.\xff", "１.2", "1.２", "1．2", "٣.٤", "-−1.0",
		strings.Repeat("0", 1000) + ".0", "0." + strings.Repeat("0", 1000), strings.Repeat("1", 100000) + ".1", "1." + strings.Repeat("1", 100000), strings.Repeat("1.", 100000), strings.Repeat("-", 100000) + "1.1",
	}
	for b := range 256 {
		if b != '.' && (b < '0' || b > '9') {
			l = append(l, "1"+string([]byte{byte(b)})+"2", "1.2"+string([]byte{byte(b)}), "1"+string([]byte{byte(b)})+".2")
		}
		if b < '1' && b != '-' || b > '9' {
			l = append(l, string([]byte{byte(b)})+"1.2", "1."+string([]byte{byte(b)})+"2")
		}
	}
	return l
}

// P6.4: what is no two numbers' text.
func TestReadBadForm(t *testing.T) {
	for _, s := range badForms() {
		if i, e := mark.ReadID(s); i != (mark.ID{}) || e != api.ErrForm {
			t.Errorf("%.50q %v %v", s, i, e)
		}
		if b, e := mark.ReadBallot(s); b != 0 || e != api.ErrForm {
			t.Errorf("%.50q %v %v", s, b, e)
		}
	}
}

// P6.4: two numbers' texts, of names, ballots and neither.
func TestReadSome(t *testing.T) {
	for _, x := range []struct {
		s  string
		i  mark.ID
		ie api.Errno
		b  mark.Ballot
		be api.Errno
	}{
		{"0.0", mark.ID{}, api.OK, 0, api.OK},
		{"1.2", mark.ID{Replica: 1, Slot: 2}, api.OK, 10, api.OK},
		{"2.0", mark.ID{Replica: 2}, api.OK, 16, api.OK},
		{"6.1023", mark.ID{Replica: 6, Slot: 1023}, api.OK, 0, api.ErrBallot},
		{"6.1024", mark.ID{}, api.ErrRange, 0, api.ErrBallot},
		{"6.6", mark.ID{Replica: 6, Slot: 6}, api.OK, 54, api.OK},
		{"6.7", mark.ID{Replica: 6, Slot: 7}, api.OK, 0, api.ErrBallot},
		{"7.0", mark.ID{}, api.ErrRange, 56, api.OK},
		{"7.7", mark.ID{}, api.ErrRange, 0, api.ErrBallot},
		{"0.1", mark.ID{Slot: 1}, api.OK, 0, api.ErrBallot},
		{"0.6", mark.ID{Slot: 6}, api.OK, 0, api.ErrBallot},
		{"0.7", mark.ID{Slot: 7}, api.OK, 0, api.ErrBallot},
		{"0.8", mark.ID{Slot: 8}, api.OK, 0, api.ErrBallot},
		{"16777215.6", mark.ID{}, api.ErrRange, 0x7fffffe, api.OK},
		{"16777215.7", mark.ID{}, api.ErrRange, 0, api.ErrBallot},
		{"16777216.0", mark.ID{}, api.ErrRange, 0, api.ErrBallot},
		{"-1.0", mark.ID{}, api.ErrRange, 0, api.ErrBallot},
		{"0.-1", mark.ID{}, api.ErrRange, 0, api.ErrBallot},
		{"1.-1", mark.ID{}, api.ErrRange, 0, api.ErrBallot},
		{"-1.-1", mark.ID{}, api.ErrRange, 0, api.ErrBallot},
		{"-10.20", mark.ID{}, api.ErrRange, 0, api.ErrBallot},
		{"536870913.2", mark.ID{}, api.ErrRange, 0, api.ErrBallot},
		{"4294967296.0", mark.ID{}, api.ErrRange, 0, api.ErrBallot},
		{"4294967297.4294967297", mark.ID{}, api.ErrRange, 0, api.ErrBallot},
		{"1.4294967297", mark.ID{}, api.ErrRange, 0, api.ErrBallot},
		{"2305843009213693953.2", mark.ID{}, api.ErrRange, 0, api.ErrBallot},
		{"9223372036854775807.0", mark.ID{}, api.ErrRange, 0, api.ErrBallot},
		{"0.9223372036854775807", mark.ID{}, api.ErrRange, 0, api.ErrBallot},
		{"-9223372036854775808.0", mark.ID{}, api.ErrRange, 0, api.ErrBallot},
		{"0.-9223372036854775808", mark.ID{}, api.ErrRange, 0, api.ErrBallot},
		{"-9223372036854775808.9223372036854775807", mark.ID{}, api.ErrRange, 0, api.ErrBallot},
	} {
		if i, e := mark.ReadID(x.s); i != x.i || e != x.ie {
			t.Error(x.s, i, e)
		}
		if b, e := mark.ReadBallot(x.s); b != x.b || e != x.be {
			t.Error(x.s, b, e)
		}
	}
}

var twoNumbers = regexp.MustCompile(`^(0|-?[1-9][0-9]*)\.(0|-?[1-9][0-9]*)$`)

// numbersOf is a text's two numbers, if it is one of numbers of 64 bits.
func numbersOf(s string) (int, int, bool) {
	m := twoNumbers.FindStringSubmatch(s)
	if m == nil || strings.HasSuffix(s, "\n") {
		return 0, 0, false
	}
	a, _ := new(big.Int).SetString(m[1], 10)
	b, _ := new(big.Int).SetString(m[2], 10)
	return int(a.Int64()), int(b.Int64()), a.IsInt64() && b.IsInt64()
}

// hold holds what is read from a text against the chapter's words.
func hold(t *testing.T, s string) {
	t.Helper()
	first, second, ok := numbersOf(s)
	i, ie := mark.ID{Replica: first, Slot: second}, api.OK
	b, be := mark.Ballot(0), api.ErrBallot
	switch {
	case !ok:
		i, ie, be = mark.ID{}, api.ErrForm, api.ErrForm
	case !isName(i):
		i, ie = mark.ID{}, api.ErrRange
	}
	if ok && first >= 0 && first < rounds && second >= 0 && second < noReplica && (first > 0 || second == 0) {
		b, be = mark.Ballot(first*8+second), api.OK
	}
	if got, e := mark.ReadID(s); got != i || e != ie {
		t.Fatalf("%q: %v %v, not %v %v", s, got, e, i, ie)
	}
	if got, e := mark.ReadBallot(s); got != b || e != be {
		t.Fatalf("%q: %v %v, not %v %v", s, got, e, b, be)
	}
}

// P6.4: all short texts of what such texts are made of, and texts of numbers at the edges.
func TestReadAgainstTheChapter(t *testing.T) {
	const made = "0167.-+ "
	texts := []string{""}
	for n := 0; n < len(texts); n++ {
		s := texts[n]
		hold(t, s)
		if len(s) == 5 {
			continue
		}
		for _, c := range made {
			texts = append(texts, s+string(c))
		}
	}
	for _, a := range edges() {
		for _, b := range edges() {
			hold(t, fmt.Sprintf("%d.%d", a, b))
		}
	}
}

// P6.4
func FuzzRead(f *testing.F) {
	for _, s := range []string{"0.0", "1.2", "-1.2", "6.1023", "16777215.6", "9223372036854775808.0", "0.-0"} {
		f.Add(s)
	}
	f.Fuzz(hold)
}

// The names and ballots are values: what is asked of them doesn't change them; nor does reading change what is read.
func TestValuesStay(t *testing.T) {
	i, o, b := mark.ID{Replica: 5, Slot: 9}, mark.ID{Replica: 1, Slot: 2000}, mark.Ballot(77)
	i.Right()
	i.Word()
	i.Compare(o)
	i.Show()
	put(i.Put)
	b.Next(3)
	b.Show()
	put(b.Put)
	if i != (mark.ID{Replica: 5, Slot: 9}) || o != (mark.ID{Replica: 1, Slot: 2000}) || b != 77 {
		t.Error(i, o, b)
	}
	all := []byte("\x05\x09\x0a")
	in := wire.NewIn(all)
	mark.TakeID(in)
	mark.TakeBallot(in)
	if string(all) != "\x05\x09\x0a" || in.End() != api.OK {
		t.Error(all, in.End())
	}
}

// P1: no call panics, whatever it is given.
func TestNoPanic(t *testing.T) {
	for _, i := range names() {
		i.Right()
		i.Word()
		i.Compare(mark.ID{Replica: i.Slot, Slot: i.Replica})
		i.Show()
		i.Put(new(wire.Out))
	}
	for _, b := range ballots() {
		for _, r := range edges() {
			b.Next(r)
		}
		b.Show()
		b.Put(new(wire.Out))
	}
	random := rand.New(rand.NewSource(66))
	for range 20000 {
		all := make([]byte, random.Intn(14))
		for n := range all {
			all[n] = byte(random.Intn(256) >> (random.Intn(2) * 5))
		}
		mark.TakeID(wire.NewIn(all))
		mark.TakeBallot(wire.NewIn(all))
		hold(t, string(all))
		mark.OfWord(random.Uint64())
	}
}
