package attr_test

import (
	"bytes"
	"encoding/binary"
	"fmt"
	"math"
	"math/rand"
	"regexp"
	"slices"
	"strconv"
	"strings"
	"testing"

	"moothill/api"
	"moothill/attr"
	"moothill/mark"
	"moothill/wire"
)

const (
	replicas = 7
	slots    = 1024
	most     = 1 << 30
)

// edges gives numbers at which something ends, and some beside them.
func edges() []int {
	l := []int{math.MinInt, math.MinInt + 1, math.MaxInt - 1, math.MaxInt}
	for _, n := range []int{0, 6, 128, 256, slots, 1 << 14, most, 1 << 31, 1 << 32, 1<<32 + slots, 1<<32 + most, 1 << 62} {
		for d := -2; d <= 2; d++ {
			l = append(l, n+d, -(n + d))
		}
	}
	slices.Sort(l)
	return slices.Compact(l)
}

// full are the attributes of which each number is the greatest one.
func full() attr.Attr {
	return attr.Attr{Seq: most, Deps: [api.MaxReplicas]int{slots, slots, slots, slots, slots, slots, slots}}
}

// with are attributes with a number at one place: 0 is Seq's, and q + 1 that of the replica q.
func with(a attr.Attr, place, n int) attr.Attr {
	if place == 0 {
		a.Seq = n
	} else {
		a.Deps[place-1] = n
	}
	return a
}

// numbers are those of attributes, place by place.
func numbers(a attr.Attr) []int {
	return append([]int{a.Seq}, a.Deps[:]...)
}

// limit is the greatest number that may stand at a place.
func limit(place int) int {
	if place == 0 {
		return most
	}
	return slots
}

// isRight tells whether attributes may be.
func isRight(a attr.Attr) bool {
	for place, n := range numbers(a) {
		if n < 0 || n > limit(place) {
			return false
		}
	}
	return true
}

// isName tells whether an instance's name may be.
func isName(i mark.ID) bool {
	return i.Replica >= 0 && i.Replica <= 6 && i.Slot >= 0 && i.Slot <= 1023
}

// alls gives attributes, right and wrong ones: each edge at each place of some, and random ones.
func alls() []attr.Attr {
	some := attr.Attr{Seq: 300, Deps: [api.MaxReplicas]int{1, 2, 128, 4, 1000, 0, 7}}
	var l []attr.Attr
	for _, a := range []attr.Attr{{}, some, full()} {
		for place := range replicas + 1 {
			for _, n := range edges() {
				l = append(l, with(a, place, n))
			}
		}
	}
	random := rand.New(rand.NewSource(9))
	for range 300 {
		l = append(l, randomRight(random), randomAny(random))
	}
	return l
}

// randomRight are some right attributes.
func randomRight(random *rand.Rand) attr.Attr {
	a := attr.Attr{Seq: random.Intn(most+1) >> random.Intn(31)}
	for q := range a.Deps {
		a.Deps[q] = random.Intn(slots+1) >> random.Intn(11)
	}
	return a
}

// randomAny are some attributes.
func randomAny(random *rand.Rand) attr.Attr {
	var a attr.Attr
	for place := range replicas + 1 {
		a = with(a, place, int(random.Uint64())>>random.Intn(64))
	}
	return a
}

// ids gives names of instances, right and wrong ones.
func ids() []mark.ID {
	var l []mark.ID
	for _, r := range []int{0, 1, 2, 3, 4, 5, 6, 7, 8, -1, -7, slots, 1 << 32, 1<<32 + 1, math.MaxInt, math.MinInt} {
		for _, s := range append(edges(), 3, 7, 300, 1000) {
			l = append(l, mark.ID{Replica: r, Slot: s})
		}
	}
	return l
}

// P9.1
func TestRight(t *testing.T) {
	for _, a := range []attr.Attr{{}, full(), {Seq: most}, {Seq: 1}, {Deps: [api.MaxReplicas]int{0, 1, 2, 3, 4, 5, 6}}, {Deps: [api.MaxReplicas]int{6: slots}}} {
		if !a.Right() {
			t.Error(a)
		}
	}
	for place := range replicas + 1 {
		for _, n := range []int{-1, limit(place) + 1, math.MinInt, math.MaxInt, 1 << 32, 1<<32 + 1} {
			if a := with(attr.Attr{}, place, n); a.Right() {
				t.Error(a)
			}
			if a := with(full(), place, n); a.Right() {
				t.Error(a)
			}
		}
	}
	// What Seq may be a replica's number may not.
	if (attr.Attr{Deps: [api.MaxReplicas]int{3: most}}).Right() {
		t.Error("too many slots")
	}
	for _, a := range alls() {
		if a.Right() != isRight(a) {
			t.Error(a, a.Right())
		}
	}
}

// P9.1
func TestMerge(t *testing.T) {
	a := attr.Attr{Seq: 4, Deps: [api.MaxReplicas]int{1, 5, 0, 7, 1024, 3, 0}}
	b := attr.Attr{Seq: 9, Deps: [api.MaxReplicas]int{2, 4, 0, 7, 1000, 0, 6}}
	if m := a.Merge(b); m != (attr.Attr{Seq: 9, Deps: [api.MaxReplicas]int{2, 5, 0, 7, 1024, 3, 6}}) {
		t.Error(m)
	}
	// Of wrong ones, too: nothing is cut.
	a = attr.Attr{Seq: math.MinInt, Deps: [api.MaxReplicas]int{-5, math.MaxInt, 2000, -1}}
	b = attr.Attr{Seq: -7, Deps: [api.MaxReplicas]int{-6, math.MinInt, 3000, -1}}
	if m := a.Merge(b); m != (attr.Attr{Seq: -7, Deps: [api.MaxReplicas]int{-5, math.MaxInt, 3000, -1}}) {
		t.Error(m)
	}
	l := alls()
	random := rand.New(rand.NewSource(90))
	for _, a := range l {
		for range 30 {
			b := l[random.Intn(len(l))]
			m := a.Merge(b)
			first, second := numbers(a), numbers(b)
			for place, x := range numbers(m) {
				if x != max(first[place], second[place]) {
					t.Fatal(a, b, m)
				}
			}
		}
		if a.Merge(a) != a {
			t.Fatal(a)
		}
	}
}

// P9.1: each number counts.
func TestMergeOfEachPlace(t *testing.T) {
	for place := range replicas + 1 {
		low, high := with(attr.Attr{}, place, 7), with(attr.Attr{}, place, 8)
		for _, m := range []attr.Attr{low.Merge(high), high.Merge(low), high.Merge(attr.Attr{}), (attr.Attr{}).Merge(high)} {
			if m != high {
				t.Error(place, m)
			}
		}
	}
}

// isWithin tells, number by number, whether attributes lie within others.
func isWithin(a, b attr.Attr) bool {
	second := numbers(b)
	for place, n := range numbers(a) {
		if n > second[place] {
			return false
		}
	}
	return true
}

// P9.1
func TestWithin(t *testing.T) {
	some := attr.Attr{Seq: 300, Deps: [api.MaxReplicas]int{1, 2, 128, 4, 1000, 0, 7}}
	for _, x := range []struct {
		a, b attr.Attr
		want bool
	}{
		{attr.Attr{}, attr.Attr{}, true},
		{attr.Attr{}, full(), true},
		{full(), attr.Attr{}, false},
		{some, some, true},
		{some, full(), true},
		{full(), some, false},
		{attr.Attr{Seq: -1}, attr.Attr{}, true},
		{attr.Attr{}, attr.Attr{Seq: -1}, false},
		{attr.Attr{Deps: [api.MaxReplicas]int{-2}}, attr.Attr{Deps: [api.MaxReplicas]int{-1}}, true},
		{attr.Attr{Deps: [api.MaxReplicas]int{-1}}, attr.Attr{Deps: [api.MaxReplicas]int{-2}}, false},
		{attr.Attr{Seq: math.MaxInt}, attr.Attr{Seq: math.MinInt}, false},
		{attr.Attr{Seq: math.MinInt}, attr.Attr{Seq: math.MaxInt}, true},
		// A greater number elsewhere doesn't make up for one.
		{attr.Attr{Deps: [api.MaxReplicas]int{1}}, attr.Attr{Seq: 9, Deps: [api.MaxReplicas]int{0, 9, 9, 9, 9, 9, 9}}, false},
		{attr.Attr{Seq: 10}, attr.Attr{Seq: 9, Deps: [api.MaxReplicas]int{9, 9, 9, 9, 9, 9, 9}}, false},
	} {
		if x.a.Within(x.b) != x.want {
			t.Error(x)
		}
	}
	for place, n := range numbers(some) {
		if a := with(some, place, n+1); a.Within(some) || !some.Within(a) {
			t.Error(place)
		}
		if a := with(some, place, n-1); !a.Within(some) || some.Within(a) {
			t.Error(place)
		}
	}
	l := alls()
	random := rand.New(rand.NewSource(95))
	for _, a := range l {
		for range 30 {
			b := l[random.Intn(len(l))]
			if a.Within(b) != isWithin(a, b) {
				t.Fatal(a, b)
			}
		}
	}
}

// P9.1: the merge is the least that both lie within.
func TestMergeIsLeast(t *testing.T) {
	random := rand.New(rand.NewSource(91))
	for range 3000 {
		a, b, c := randomRight(random), randomRight(random), randomRight(random)
		m := a.Merge(b)
		if !a.Within(m) || !b.Within(m) || !m.Right() || m != b.Merge(a) {
			t.Fatal(a, b, m)
		}
		if both := a.Within(c) && b.Within(c); both != m.Within(c) {
			t.Fatal(a, b, c)
		}
		if a.Merge(b.Merge(c)) != m.Merge(c) {
			t.Fatal(a, b, c)
		}
	}
}

// P9.1: the chapter's example, and the edges of what is covered.
func TestCovers(t *testing.T) {
	a := attr.Attr{Deps: [api.MaxReplicas]int{2: 3}}
	for slot := range 10 {
		if a.Covers(mark.ID{Replica: 2, Slot: slot}) != (slot < 3) {
			t.Error(slot)
		}
		for _, r := range []int{-1, 0, 1, 3, 6, 7} {
			if a.Covers(mark.ID{Replica: r, Slot: slot}) {
				t.Error(r, slot)
			}
		}
	}
	for r := range replicas {
		for n := 0; n <= slots; n += 8 {
			a := with(attr.Attr{}, r+1, n)
			for slot := range slots {
				if a.Covers(mark.ID{Replica: r, Slot: slot}) != (slot < n) {
					t.Fatal(r, n, slot)
				}
			}
		}
	}
	for _, i := range []mark.ID{{Slot: slots}, {Slot: -1}, {Replica: replicas}, {Replica: -1}, {Replica: 8}, {Replica: math.MaxInt}, {Replica: math.MinInt, Slot: math.MinInt}} {
		if full().Covers(i) {
			t.Error(i)
		}
	}
}

// P9.1: attributes that aren't right cover likewise; wrong names' instances nothing does.
func TestCoversOfAny(t *testing.T) {
	for n, a := range alls() {
		for _, i := range ids()[n%11:] {
			want := isName(i) && a.Deps[i.Replica] > i.Slot
			if a.Covers(i) != want {
				t.Fatal(a, i)
			}
		}
		a.Deps[4] = 1 << 40
		if !a.Covers(mark.ID{Replica: 4, Slot: 1023}) || a.Covers(mark.ID{Replica: 4, Slot: 1024}) {
			t.Fatal(a)
		}
	}
}

// P9.1
func TestOwns(t *testing.T) {
	a := attr.Attr{Seq: 5, Deps: [api.MaxReplicas]int{0, 1, 2, 3, 1023, 1024, 6}}
	for _, x := range []struct {
		i    mark.ID
		want bool
	}{
		{mark.ID{Replica: 0, Slot: 0}, true}, {mark.ID{Replica: 1, Slot: 1}, true}, {mark.ID{Replica: 4, Slot: 1023}, true}, {mark.ID{Replica: 6, Slot: 6}, true},
		{mark.ID{Replica: 0, Slot: 1}, false}, {mark.ID{Replica: 1, Slot: 0}, false}, {mark.ID{Replica: 4, Slot: 1022}, false}, {mark.ID{Replica: 6, Slot: 7}, false},
		// All slots are covered: none is behind them; and no slot is 1024.
		{mark.ID{Replica: 5, Slot: 1023}, false}, {mark.ID{Replica: 5, Slot: 1024}, false},
		{mark.ID{Replica: 7, Slot: 0}, false}, {mark.ID{Replica: -1, Slot: 0}, false}, {mark.ID{Replica: 0, Slot: -1}, false},
	} {
		if a.Owns(x.i) != x.want {
			t.Error(x)
		}
	}
	// Of wrong ones that replica's number may fit: still they are nobody's.
	i := mark.ID{Replica: 1, Slot: 1}
	for _, place := range []int{0, 1, 3, 7} {
		for _, n := range []int{-1, limit(place) + 1} {
			if b := with(a, place, n); b.Owns(i) {
				t.Error(b)
			}
		}
	}
	if (attr.Attr{Deps: [api.MaxReplicas]int{-1}}).Owns(mark.ID{Slot: -1}) {
		t.Error("the slot -1")
	}
	for n, a := range alls() {
		for _, i := range ids()[n%11:] {
			want := isRight(a) && isName(i) && a.Deps[i.Replica] == i.Slot
			if a.Owns(i) != want {
				t.Fatal(a, i)
			}
		}
	}
}

// P9.1
func TestOwn(t *testing.T) {
	a := attr.Attr{Seq: 5, Deps: [api.MaxReplicas]int{10, 11, 12, 13, 14, 15, 16}}
	for _, x := range []struct {
		i    mark.ID
		want attr.Attr
	}{
		{mark.ID{Replica: 2, Slot: 0}, attr.Attr{Seq: 5, Deps: [api.MaxReplicas]int{10, 11, 0, 13, 14, 15, 16}}},
		{mark.ID{Replica: 2, Slot: 12}, a},
		{mark.ID{Replica: 6, Slot: 1023}, attr.Attr{Seq: 5, Deps: [api.MaxReplicas]int{10, 11, 12, 13, 14, 15, 1023}}},
		{mark.ID{Replica: 0, Slot: 11}, attr.Attr{Seq: 5, Deps: [api.MaxReplicas]int{11, 11, 12, 13, 14, 15, 16}}},
		{mark.ID{Replica: 0, Slot: 1024}, a}, {mark.ID{Replica: 0, Slot: -1}, a}, {mark.ID{Replica: 7, Slot: 0}, a}, {mark.ID{Replica: -1, Slot: 0}, a},
	} {
		if got := a.Own(x.i); got != x.want {
			t.Error(x.i, got)
		}
	}
	for n, a := range alls() {
		for _, i := range ids()[n%11:] {
			want := a
			if isName(i) {
				want.Deps[i.Replica] = i.Slot
			}
			got := a.Own(i)
			if got != want {
				t.Fatal(a, i, got)
			}
			if isName(i) && isRight(got) && (!got.Owns(i) || got.Covers(i) || i.Slot > 0 && !got.Covers(mark.ID{Replica: i.Replica, Slot: i.Slot - 1})) {
				t.Fatal(a, i, got)
			}
		}
	}
}

// P9.1
func TestPast(t *testing.T) {
	for _, x := range []struct{ own, seq, want int }{
		{0, 0, 1}, {0, 1, 2}, {1, 0, 1}, {2, 0, 2}, {7, 7, 8}, {8, 7, 8}, {9, 7, 9}, {5, 100, 101},
		{0, -1, 0}, {0, -2, 0}, {0, math.MinInt, 0}, {3, -1, 3},
		{0, most - 2, most - 1}, {0, most - 1, most}, {0, most, most}, {0, most + 1, most}, {0, 1 << 32, most},
		{0, math.MaxInt - 1, most}, {0, math.MaxInt, most}, {most, most, most}, {most, 0, most}, {most - 1, most, most}, {most - 1, most - 2, most - 1},
		// Their own one isn't cut.
		{most + 1, 0, most + 1}, {most + 1, most, most + 1}, {most + 2, math.MaxInt, most + 2}, {math.MaxInt, math.MaxInt, math.MaxInt}, {math.MaxInt, -1, math.MaxInt},
		{-5, -1, -5}, {-5, -6, -5}, {-5, 0, 1}, {math.MinInt, 0, 1}, {math.MinInt, -1, math.MinInt}, {math.MinInt, math.MaxInt, most},
	} {
		deps := [api.MaxReplicas]int{1, 2000, -3, 4, 5, 6, 7}
		if got := (attr.Attr{Seq: x.own, Deps: deps}).Past(x.seq); got != (attr.Attr{Seq: x.want, Deps: deps}) {
			t.Error(x, got)
		}
	}
	for _, a := range alls() {
		for _, seq := range edges() {
			want := a
			if seq >= 0 && seq < most {
				want.Seq = max(a.Seq, seq+1)
			} else if seq >= most {
				want.Seq = max(a.Seq, most)
			}
			if got := a.Past(seq); got != want {
				t.Fatal(a, seq, got)
			}
		}
	}
}

// put are the bytes that something puts.
func put(a attr.Attr) []byte {
	o := new(wire.Out)
	a.Put(o)
	return o.Bytes()
}

// row are numbers as short numbers, one behind the other.
func row(l ...int) []byte {
	var b []byte
	for _, n := range l {
		b = binary.AppendUvarint(b, uint64(n))
	}
	return b
}

// P9.2
func TestPut(t *testing.T) {
	for _, x := range []struct {
		a    attr.Attr
		want string
	}{
		{attr.Attr{}, "\x00\x00\x00\x00\x00\x00\x00\x00"},
		{attr.Attr{Seq: 1, Deps: [api.MaxReplicas]int{2, 3, 4, 5, 6, 7, 8}}, "\x01\x02\x03\x04\x05\x06\x07\x08"},
		{attr.Attr{Seq: 300, Deps: [api.MaxReplicas]int{2: 3, 6: 300}}, "\xac\x02\x00\x00\x03\x00\x00\x00\xac\x02"},
		{full(), "\x80\x80\x80\x80\x04" + strings.Repeat("\x80\x08", 7)},
		{attr.Attr{Seq: -1}, strings.Repeat("\x00", 8)},
		{attr.Attr{Seq: most + 1, Deps: [api.MaxReplicas]int{1, 2, 3}}, strings.Repeat("\x00", 8)},
		{attr.Attr{Seq: 5, Deps: [api.MaxReplicas]int{1, 2, 3, 4, 5, 6, slots + 1}}, strings.Repeat("\x00", 8)},
		{attr.Attr{Seq: 5, Deps: [api.MaxReplicas]int{-1, 2, 3, 4, 5, 6, 7}}, strings.Repeat("\x00", 8)},
	} {
		if got := put(x.a); string(got) != x.want {
			t.Errorf("%v %x", x.a, got)
		}
	}
	for _, a := range alls() {
		want := row(0, 0, 0, 0, 0, 0, 0, 0)
		if isRight(a) {
			want = row(numbers(a)...)
		}
		if got := put(a); !bytes.Equal(got, want) {
			t.Fatalf("%v %x", a, got)
		}
	}
}

// P9.2: attributes stand behind what was put, and are taken from there, to the byte.
func TestPutBehind(t *testing.T) {
	o := new(wire.Out).Byte(9)
	a := attr.Attr{Seq: 300, Deps: [api.MaxReplicas]int{1, 2, 3, 4, 5, 6, 1024}}
	a.Put(o)
	full().Put(o)
	o.Byte(8)
	if got := o.Bytes(); string(got) != "\x09\xac\x02\x01\x02\x03\x04\x05\x06\x80\x08\x80\x80\x80\x80\x04"+strings.Repeat("\x80\x08", 7)+"\x08" {
		t.Errorf("%x", got)
	}
	in := wire.NewIn(o.Bytes())
	if b := in.Byte(); b != 9 {
		t.Error(b)
	}
	if got := attr.Take(in); got != a {
		t.Error(got)
	}
	if got := attr.Take(in); got != full() {
		t.Error(got)
	}
	if in.Left() != 1 || in.Byte() != 8 || in.End() != api.OK {
		t.Error(in.Left(), in.End())
	}
}

// P9.2
func TestTakeWhatWasPut(t *testing.T) {
	for _, a := range alls() {
		in := wire.NewIn(put(a))
		want := a
		if !isRight(a) {
			want = attr.Attr{}
		}
		if got := attr.Take(in); got != want || in.End() != api.OK {
			t.Fatal(a, got, in.End())
		}
	}
}

// isRefused tells that taking fails with an error, and that nothing is told beside it.
func isRefused(t *testing.T, b []byte, e api.Errno) {
	t.Helper()
	in := wire.NewIn(b)
	if got := attr.Take(in); got != (attr.Attr{}) || !in.Failed() || in.End() != e || in.Left() != 0 {
		t.Errorf("%x %v %v, not %v", b, got, in.End(), e)
	}
}

// P9.2: at each place each error of a short number; the first one is the one that stays.
func TestTakeWrong(t *testing.T) {
	for place := range replicas + 1 {
		some := numbers(attr.Attr{Seq: 300, Deps: [api.MaxReplicas]int{1, 2, 128, 4, 1000, 0, 7}})
		ahead, behind := row(some[:place]...), row(some[place+1:]...)
		rest := [][]byte{nil, behind, {0x80}, {0x80, 0}, row(most+1, slots+1), bytes.Repeat([]byte{0xff}, 99)}
		isRefused(t, ahead, api.ErrShort)
		isRefused(t, slices.Concat(ahead, []byte{0x80}), api.ErrShort)
		isRefused(t, slices.Concat(ahead, bytes.Repeat([]byte{0x80}, 9)), api.ErrShort)
		for _, r := range rest {
			isRefused(t, slices.Concat(ahead, row(limit(place)+1), r), api.ErrRange)
			isRefused(t, slices.Concat(ahead, row(1<<32), r), api.ErrRange)
			isRefused(t, slices.Concat(ahead, row(1<<32+1), r), api.ErrRange)
			isRefused(t, slices.Concat(ahead, row(math.MaxInt), r), api.ErrRange)
			isRefused(t, slices.Concat(ahead, row(-1), r), api.ErrRange)
			isRefused(t, slices.Concat(ahead, bytes.Repeat([]byte{0xff}, 9), []byte{2}, r), api.ErrRange)
			isRefused(t, slices.Concat(ahead, []byte{0x80, 0}, r), api.ErrForm)
			isRefused(t, slices.Concat(ahead, []byte{0x81, 0x80, 0}, r), api.ErrForm)
		}
		in := wire.NewIn(slices.Concat(ahead, row(limit(place)), behind))
		some[place] = limit(place)
		if got := attr.Take(in); !slices.Equal(numbers(got), some) || in.End() != api.OK {
			t.Error(place, got, in.End())
		}
	}
}

// P9.2: cut anywhere there are too few bytes; what is left over is left.
func TestTakeCut(t *testing.T) {
	all := put(full())
	for n := range all {
		isRefused(t, all[:n], api.ErrShort)
	}
	in := wire.NewIn(append(all, 1, 2, 3))
	if got := attr.Take(in); got != full() || in.Failed() || in.Left() != 3 || in.End() != api.ErrLong {
		t.Error(got, in.Left(), in.End())
	}
}

// P9.2: an input that has failed keeps its error, and noughts are taken from it.
func TestTakeFromFailed(t *testing.T) {
	for _, e := range []api.Errno{api.ErrForm, api.ErrShort, api.ErrSum, 99, -1} {
		for _, b := range [][]byte{nil, put(full()), row(most + 1)} {
			in := wire.NewIn(b)
			in.Fail(e)
			if got := attr.Take(in); got != (attr.Attr{}) || in.End() != e {
				t.Error(got, in.End())
			}
		}
	}
	in := wire.NewIn(append(row(1, 2, slots+1), put(full())...))
	for range 2 {
		if got := attr.Take(in); got != (attr.Attr{}) || in.End() != api.ErrRange {
			t.Error(got, in.End())
		}
	}
}

// P9.2: of any bytes the attributes that are there, or the error of the first short number that has one.
func TestTakeAgainstTheChapter(t *testing.T) {
	random := rand.New(rand.NewSource(92))
	fine := 0
	for range 40000 {
		b := row(numbers(randomRight(random))...)
		for range random.Intn(3) {
			b[random.Intn(len(b))] ^= 1 << random.Intn(8)
		}
		if random.Intn(4) == 0 {
			b = b[:random.Intn(len(b)+1)]
		}
		holdBytes(t, b)
		in := wire.NewIn(b)
		attr.Take(in)
		if !in.Failed() {
			fine++
		}
	}
	if fine < 1000 || fine > 39000 {
		t.Error(fine)
	}
}

// holdBytes holds what is taken from bytes against eight short numbers.
func holdBytes(t *testing.T, b []byte) {
	t.Helper()
	in, eight := wire.NewIn(b), wire.NewIn(b)
	var want attr.Attr
	for place := range replicas + 1 {
		want = with(want, place, int(eight.Short(uint64(limit(place)))))
	}
	if eight.Failed() {
		want = attr.Attr{}
	}
	got := attr.Take(in)
	if got != want || in.Failed() != eight.Failed() || in.Left() != eight.Left() || in.End() != eight.End() {
		t.Fatalf("%x %v %v, not %v %v", b, got, in.End(), want, eight.End())
	}
	if !in.Failed() && (!got.Right() || !bytes.Equal(put(got), b[:len(b)-in.Left()])) {
		t.Fatalf("%x %v", b, got)
	}
}

// P9.3
func TestShow(t *testing.T) {
	for _, x := range []struct {
		a    attr.Attr
		want string
	}{
		{attr.Attr{}, "0|0,0,0,0,0,0,0"},
		{attr.Attr{Seq: 8, Deps: [api.MaxReplicas]int{2: 5}}, "8|0,0,5,0,0,0,0"},
		{attr.Attr{Seq: 10, Deps: [api.MaxReplicas]int{1, 20, 300, 1000, 5, 6, 7}}, "10|1,20,300,1000,5,6,7"},
		{full(), "1073741824|1024,1024,1024,1024,1024,1024,1024"},
	} {
		if s, e := x.a.Show(); s != x.want || e != api.OK {
			t.Error(x.a, s, e)
		}
		if a, e := attr.Read(x.want); a != x.a || e != api.OK {
			t.Error(x.want, a, e)
		}
	}
	for _, a := range alls() {
		s, e := a.Show()
		if !isRight(a) {
			if s != "" || e != api.ErrRange {
				t.Fatal(a, s, e)
			}
			continue
		}
		n := numbers(a)
		if s != fmt.Sprintf("%d|%d,%d,%d,%d,%d,%d,%d", n[0], n[1], n[2], n[3], n[4], n[5], n[6], n[7]) || e != api.OK {
			t.Fatal(a, s, e)
		}
		if got, e := attr.Read(s); got != a || e != api.OK {
			t.Fatal(s, got, e)
		}
	}
}

// badForms gives texts that are no right attributes' text.
func badForms() []string {
	noughts := "0|0,0,0,0,0,0,0"
	l := []string{
		"", "|", "0", "0|", "|0,0,0,0,0,0,0", "0|0", "0|0,0,0,0,0,0", "0|0,0,0,0,0,0,", "0|0,0,0,0,0,0,0,", "0|0,0,0,0,0,0,0,0", "0|,0,0,0,0,0,0,0",
		"0|,0,0,0,0,0,0", "0|0,0,0,,0,0,0", "0|,,,,,,", "|,,,,,,", "0||0,0,0,0,0,0,0", "0|0,0,0,0,0,0,0|", "0|0,0,0|0,0,0,0", "0|0|0|0|0|0|0|0", "0,0,0,0,0,0,0,0", "0,0|0,0,0,0,0,0",
		"0:0,0,0,0,0,0,0", "0.0,0,0,0,0,0,0", "0|0;0;0;0;0;0;0", "0|0 0 0 0 0 0 0", "0| 0,0,0,0,0,0,0", "0|0, 0,0,0,0,0,0", " " + noughts, noughts + " ", noughts + "\n", noughts + "\x00", "\x00" + noughts, noughts + noughts, noughts + ",", noughts + "|" + noughts,
		"0｜0,0,0,0,0,0,0", "0|0，0，0，0，0，0，0", "０|0,0,0,0,0,0,0", "٣|0,0,0,0,0,0,0", "\xff|0,0,0,0,0,0,0",
		strings.Repeat("0", 1000) + "|0,0,0,0,0,0,0", strings.Repeat("1", 100000) + "|0,0,0,0,0,0,0", noughts + strings.Repeat(",0", 100000), strings.Repeat("|", 100000), strings.Repeat(",", 100000), "0|" + strings.Repeat(",", 100000), noughts + strings.Repeat("0", 100000),
	}
	wrong := []string{"", "-", "-0", "-1", "+0", "+1", "00", "01", "007", "0x1", "0b1", "0o7", "1_0", "1e1", "1.0", " 1", "1 ", "a", "NaN", "Inf", "\xff", "1073741825", "2147483648", "4294967296", "4294967297", "9223372036854775807", "9223372036854775808", "-9223372036854775808", "-9223372036854775809", "18446744073709551615", "18446744073709551616", "18446744073709551617", "99999999999999999999"}
	for place := range replicas + 1 {
		for _, w := range append(wrong, strconv.Itoa(limit(place)+1), strconv.Itoa(-limit(place))) {
			l = append(l, textWith(place, w))
		}
	}
	return l
}

// textWith is a text of eight parts of which one is another one.
func textWith(place int, w string) string {
	parts := []string{"1", "2", "3", "4", "5", "6", "7", "8"}
	parts[place] = w
	return parts[0] + "|" + strings.Join(parts[1:], ",")
}

// P9.3
func TestReadBadForm(t *testing.T) {
	for _, s := range badForms() {
		if a, e := attr.Read(s); a != (attr.Attr{}) || e != api.ErrForm {
			t.Errorf("%.60q %v %v", s, a, e)
		}
		hold(t, s)
	}
	for place := range replicas + 1 {
		if a, e := attr.Read(textWith(place, strconv.Itoa(limit(place)))); e != api.OK || numbers(a)[place] != limit(place) {
			t.Error(place, a, e)
		}
	}
}

var eightNumbers = regexp.MustCompile(`\A(0|[1-9][0-9]{0,9})\|` + strings.Repeat(`(0|[1-9][0-9]{0,9}),`, 6) + `(0|[1-9][0-9]{0,9})\z`)

// hold holds what is read from a text against the chapter's words.
func hold(t *testing.T, s string) {
	t.Helper()
	want, e := attr.Attr{}, api.ErrForm
	if m := eightNumbers.FindStringSubmatch(s); m != nil {
		for place, n := range m[1:] {
			v, _ := strconv.ParseInt(n, 10, 64)
			want = with(want, place, int(v))
		}
		e = api.OK
	}
	if !isRight(want) {
		want, e = attr.Attr{}, api.ErrForm
	}
	got, ge := attr.Read(s)
	if got != want || ge != e {
		t.Fatalf("%q: %v %v, not %v %v", s, got, ge, want, e)
	}
	if own, se := got.Show(); e == api.OK && (own != s || se != api.OK) {
		t.Fatalf("%q: %q %v", s, own, se)
	}
}

// P9.3: texts with each byte at each place: put in, put in the place of one, or taken out.
func TestReadSpoilt(t *testing.T) {
	for _, s := range []string{"0|0,0,0,0,0,0,0", "12|3,0,45,1000,6,70,8", "1073741824|1024,1024,1024,1024,1024,1024,1024"} {
		for n := range len(s) + 1 {
			for b := range 256 {
				hold(t, s[:n]+string([]byte{byte(b)})+s[n:])
				if n < len(s) {
					hold(t, s[:n]+string([]byte{byte(b)})+s[n+1:])
				}
			}
			hold(t, s[:n])
			hold(t, s[n:])
			if n < len(s) {
				hold(t, s[:n]+s[n+1:])
			}
		}
	}
}

// P9.3: texts made at random of what such texts are made of.
func TestReadAgainstTheChapter(t *testing.T) {
	random := rand.New(rand.NewSource(93))
	pieces := []string{"0", "1", "9", "10", "1023", "1024", "1025", "1073741824", "1073741825", "00", "-1", ""}
	for range 60000 {
		s := pieces[random.Intn(9)]
		for n := range 6 + random.Intn(20)/9 {
			between := ","
			if n == 0 && random.Intn(9) > 0 {
				between = "|"
			}
			piece := pieces[random.Intn(6)]
			if random.Intn(12) == 0 {
				piece = pieces[random.Intn(len(pieces))]
			}
			s += between + piece
		}
		hold(t, s)
	}
}

// P9.3
func FuzzRead(f *testing.F) {
	for _, s := range []string{"0|0,0,0,0,0,0,0", "8|0,0,5,0,0,0,0", "1073741824|1024,1024,1024,1024,1024,1024,1024", "-1|0,0,0,0,0,0,0", "0|0,0,0,0,0,0,00"} {
		f.Add(s)
	}
	f.Fuzz(hold)
}

// P9.2
func FuzzTake(f *testing.F) {
	f.Add(put(full()))
	f.Add(row(1, 2, 3, 4, 5, 6, 7, 8, 9))
	f.Fuzz(holdBytes)
}

// Attributes are values: what is asked of them doesn't change them; nor does reading change what is read.
func TestValuesStay(t *testing.T) {
	a := attr.Attr{Seq: 3, Deps: [api.MaxReplicas]int{1, 2, 3, 4, 5, 6, 7}}
	b := attr.Attr{Seq: 4, Deps: [api.MaxReplicas]int{7, 6, 5, 4, 3, 2, 1}}
	wasA, wasB, i := a, b, mark.ID{Replica: 2, Slot: 9}
	a.Right()
	a.Merge(b)
	a.Within(b)
	a.Covers(i)
	a.Owns(i)
	a.Own(i)
	a.Past(77)
	a.Show()
	put(a)
	if a != wasA || b != wasB || i != (mark.ID{Replica: 2, Slot: 9}) {
		t.Error(a, b, i)
	}
	all := put(a)
	was := bytes.Clone(all)
	in := wire.NewIn(all)
	if got := attr.Take(in); got != a || !bytes.Equal(all, was) {
		t.Error(got, all)
	}
	clear(all)
	if got := attr.Take(wire.NewIn(was)); got != a {
		t.Error(got)
	}
}

// P1: no call panics, whatever it is given.
func TestNoPanic(t *testing.T) {
	l, names := alls(), ids()
	random := rand.New(rand.NewSource(94))
	for n, a := range l {
		i := names[n*37%len(names)]
		a.Right()
		a.Merge(l[len(l)-1-n])
		a.Within(l[len(l)-1-n])
		a.Covers(i)
		a.Owns(i)
		a.Own(i)
		a.Past(i.Slot)
		a.Show()
		put(a)
	}
	for range 20000 {
		all := make([]byte, random.Intn(20))
		for n := range all {
			all[n] = byte(random.Intn(256) >> (random.Intn(2) * 5))
		}
		holdBytes(t, all)
		hold(t, string(all))
	}
}
