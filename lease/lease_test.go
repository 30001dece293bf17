package lease_test

import (
	"bytes"
	"encoding/binary"
	"fmt"
	"math"
	"math/big"
	"math/rand"
	"slices"
	"strings"
	"testing"
	"unsafe"

	"moothill/api"
	"moothill/cmd"
	"moothill/lease"
	"moothill/wire"
)

const (
	served   = 256
	sessions = 32
	longest  = 64
	lastTime = 1 << 41
	lastE    = 1 << 20
)

// session gives a session.
func session(num uint64, foot string) cmd.Session {
	return cmd.Session{Num: num, Foot: foot}
}

// times has times at edges, and such as are none.
func times() []int {
	return []int{math.MinInt, math.MinInt + 1, -lastTime, -1, 0, 1, 2, 7, 1 << 20, 1<<40 - 1, 1 << 40, lastTime - 2, lastTime - 1, lastTime, lastTime + 1, 1 << 42, math.MaxInt - 1, math.MaxInt}
}

// answers has answers, with parts at their edges.
func answers() []lease.Answer {
	return []lease.Answer{{}, {E: 10}, {N: 1}, {Granted: true}, {E: api.ErrFoot, N: 3, Granted: true}, {N: math.MaxUint64, Granted: true}, {E: lastE}}
}

// opened is a book with one open session.
func opened(t *testing.T, s cmd.Session, ttl, time int) *lease.Book {
	t.Helper()
	b := lease.New()
	if e := b.Open(s, ttl, time); e != api.OK {
		t.Fatal(e)
	}
	return b
}

// dead is a book with one dead session.
func dead(t *testing.T, s cmd.Session) *lease.Book {
	t.Helper()
	b := opened(t, s, 5, 3)
	if e := b.End(s); e != api.OK {
		t.Fatal(e)
	}
	return b
}

// knows tells whether this is known of a session.
func knows(t *testing.T, b *lease.Book, s cmd.Session, want lease.Info) {
	t.Helper()
	if got := b.Info(s); got != want {
		t.Errorf("%v: %+v, not %+v", s, got, want)
	}
}

// told tells whether this is what was told to a request.
func told(t *testing.T, b *lease.Book, s cmd.Session, request uint64, want lease.Answer, ok bool) {
	t.Helper()
	if got, is := b.Told(s, request); got != want || is != ok {
		t.Errorf("%v %d: %v %t, not %v %t", s, request, got, is, want, ok)
	}
}

// is tells whether an error is the right one.
func is(t *testing.T, got, want api.Errno) {
	t.Helper()
	if got != want {
		t.Errorf("%d, not %d", got, want)
	}
}

// lists tells whether these are the sessions.
func lists(t *testing.T, got []cmd.Session, want ...cmd.Session) {
	t.Helper()
	if !slices.Equal(got, want) {
		t.Errorf("%v, not %v", got, want)
	}
}

// written is what a book puts.
func written(b *lease.Book) []byte {
	o := new(wire.Out)
	b.Put(o)
	return o.Bytes()
}

// taken is the book of bytes, in which nothing else stands.
func taken(t *testing.T, b []byte) *lease.Book {
	t.Helper()
	in := wire.NewIn(b)
	x := lease.Take(in)
	if e := in.End(); e != api.OK {
		t.Fatalf("%x: %d", b, e)
	}
	return x
}

// P16.2: the chapter's example.
func TestExample(t *testing.T) {
	s := session(1, "a")
	b := opened(t, s, 5, 3)
	knows(t, b, s, lease.Info{Open: true, Deadline: 8, Ttl: 5})
	is(t, b.Expire(s, 7), api.ErrLease)
	knows(t, b, s, lease.Info{Open: true, Deadline: 8, Ttl: 5})
	is(t, b.Expire(s, 8), api.OK)
	knows(t, b, s, lease.Info{Dead: true})
}

// P16.1: nothing is known; and no two books know anything together.
func TestNew(t *testing.T) {
	a, b := lease.New(), lease.New()
	s := session(1, "a")
	for range 2 {
		knows(t, b, s, lease.Info{})
		told(t, b, s, 1, lease.Answer{}, false)
		if !b.Room(s) || len(b.Requests(s)) != 0 {
			t.Error("room", b.Requests(s))
		}
		lists(t, b.Sessions())
		lists(t, b.Due(math.MaxInt))
		is(t, a.Open(s, 1, 1), api.OK)
		a.Tell(s, 1, lease.Answer{N: 1})
		a = lease.New()
	}
}

// P16.1, P16.3: what is asked makes nothing known, nor does what is refused.
func TestUnknown(t *testing.T) {
	b := lease.New()
	for _, s := range []cmd.Session{{}, session(1, "a"), session(math.MaxUint64, strings.Repeat("x", 100)), session(0, "\xff\x00")} {
		for _, time := range times() {
			is(t, b.Keep(s, time), api.ErrSession)
			is(t, b.Expire(s, time), api.ErrSession)
			lists(t, b.Due(time))
		}
		is(t, b.End(s), api.ErrSession)
		knows(t, b, s, lease.Info{})
		told(t, b, s, 0, lease.Answer{}, false)
		if !b.Room(s) || len(b.Requests(s)) != 0 {
			t.Error(s)
		}
		lists(t, b.Sessions())
	}
	if got := written(b); !bytes.Equal(got, []byte{0}) {
		t.Error(got)
	}
}

// P16.1: the first answer to a request is the one from then on, whatever the session.
func TestTell(t *testing.T) {
	s := session(3, "a")
	for _, b := range []*lease.Book{lease.New(), opened(t, s, 5, 3), dead(t, s)} {
		was := b.Info(s)
		for n, request := range []uint64{0, 1, 2, 127, 128, 1 << 32, math.MaxUint64 - 1, math.MaxUint64} {
			for m, a := range answers() {
				told(t, b, s, request, lease.Answer{}, false)
				b.Tell(s, request, a)
				told(t, b, s, request, a, true)
				b.Tell(s, request, lease.Answer{E: 11, N: 99, Granted: true})
				told(t, b, s, request, a, true)
				was.Served = n*len(answers()) + m + 1
				knows(t, b, s, was)
				request ^= 1 << (40 + m)
			}
		}
	}
}

// P16.1: a session is its Num and its Foot, both: of another one nothing was told.
func TestTellOther(t *testing.T) {
	all := []cmd.Session{session(0, ""), session(0, "a"), session(1, ""), session(1, "a"), session(1, "a/b"), session(1, "b"), session(2, "a"), session(1<<63, "a")}
	for _, s := range all {
		b := lease.New()
		b.Tell(s, 7, lease.Answer{N: 9})
		is(t, b.Open(s, 2, 1), api.OK)
		for _, other := range all {
			if other == s {
				continue
			}
			told(t, b, other, 7, lease.Answer{}, false)
			knows(t, b, other, lease.Info{})
			is(t, b.Keep(other, 9), api.ErrSession)
			is(t, b.End(other), api.ErrSession)
			is(t, b.Expire(other, 9), api.ErrSession)
			if len(b.Requests(other)) != 0 {
				t.Error(other)
			}
		}
		knows(t, b, s, lease.Info{Open: true, Deadline: 3, Ttl: 2, Served: 1})
		lists(t, b.Sessions(), s)
	}
}

// P16.1: a session has room for MaxServed answers; past them nothing is done.
func TestRoom(t *testing.T) {
	s, other := session(3, "a"), session(3, "b")
	b := opened(t, s, 5, 3)
	for n := range served {
		if !b.Room(s) {
			t.Fatal(n)
		}
		knows(t, b, s, lease.Info{Open: true, Deadline: 8, Ttl: 5, Served: n})
		b.Tell(s, uint64(n*3), lease.Answer{N: uint64(n)})
		b.Tell(s, uint64(n*3), lease.Answer{N: 1000})
	}
	was := written(b)
	for _, request := range []uint64{0, 1, 2, 3, served, 3 * (served - 1), 3 * served, math.MaxUint64} {
		if b.Room(s) {
			t.Error("room")
		}
		b.Tell(s, request, lease.Answer{N: 2000})
		if request%3 != 0 || request >= 3*served {
			told(t, b, s, request, lease.Answer{}, false)
		}
	}
	if !bytes.Equal(written(b), was) || len(b.Requests(s)) != served {
		t.Error("something was told")
	}
	for n := range served {
		told(t, b, s, uint64(n*3), lease.Answer{N: uint64(n)}, true)
	}
	if !b.Room(other) {
		t.Error("no room in another one")
	}
	b.Tell(other, 1, lease.Answer{N: 5})
	told(t, b, other, 1, lease.Answer{N: 5}, true)
	// The answers outlive the session, and so does the want of room.
	is(t, b.End(s), api.OK)
	knows(t, b, s, lease.Info{Dead: true, Served: served})
	if b.Room(s) {
		t.Error("room in a dead one")
	}
	told(t, b, s, 30, lease.Answer{N: 10}, true)
}

// P16.2: a dead session isn't opened again, an open one neither; what was told in one doesn't hinder it.
func TestOpen(t *testing.T) {
	s := session(3, "a")
	b := lease.New()
	b.Tell(s, 4, lease.Answer{N: 1})
	is(t, b.Open(s, 7, 10), api.OK)
	knows(t, b, s, lease.Info{Open: true, Deadline: 17, Ttl: 7, Served: 1})
	told(t, b, s, 4, lease.Answer{N: 1}, true)
	is(t, b.Open(s, 9, 90), api.ErrTwice)
	knows(t, b, s, lease.Info{Open: true, Deadline: 17, Ttl: 7, Served: 1})
	is(t, b.End(s), api.OK)
	is(t, b.Open(s, 9, 90), api.ErrSession)
	knows(t, b, s, lease.Info{Dead: true, Served: 1})
	b = opened(t, s, 5, 3)
	is(t, b.Expire(s, 8), api.OK)
	is(t, b.Open(s, 5, 3), api.ErrSession)
}

// P16.2: at most MaxSessions of one Foot are open; that error is told last.
func TestOpenFull(t *testing.T) {
	b := lease.New()
	gone, unopened := session(1000, "a"), session(1001, "a")
	is(t, b.Open(gone, 1, 1), api.OK)
	is(t, b.End(gone), api.OK)
	b.Tell(unopened, 1, lease.Answer{})
	for n := range sessions {
		is(t, b.Open(session(uint64(n), "b"), 1, n), api.OK)
		is(t, b.Open(session(uint64(n), "a"), 1, n), api.OK)
	}
	was := written(b)
	is(t, b.Open(session(99, "a"), 1, 1), api.ErrFull)
	is(t, b.Open(unopened, 1, 1), api.ErrFull)
	is(t, b.Open(session(7, "a"), 1, 1), api.ErrTwice)
	is(t, b.Open(gone, 1, 1), api.ErrSession)
	if !bytes.Equal(written(b), was) {
		t.Error("what was refused changed something")
	}
	// The same Foot, not one above, below or beside it.
	for n, foot := range []string{"", "a/b", "aa", "A", "c", "a\x00"} {
		is(t, b.Open(session(uint64(n), foot), 1, 1), api.OK)
	}
	is(t, b.Open(session(99, "b"), 1, 1), api.ErrFull)
	is(t, b.End(session(3, "a")), api.OK)
	is(t, b.Open(session(99, "b"), 1, 1), api.ErrFull)
	is(t, b.Open(unopened, 1, 1), api.OK)
	is(t, b.Open(session(99, "a"), 1, 1), api.ErrFull)
	is(t, b.Expire(session(31, "a"), 100), api.OK)
	is(t, b.Open(session(99, "a"), 1, 1), api.OK)
	is(t, b.Open(session(100, "a"), 1, 1), api.ErrFull)
}

// P16.2: a book that was taken may have more; then, too, no more are opened.
func TestOpenOverfull(t *testing.T) {
	o := new(wire.Out).Short(sessions + 2)
	for n := range uint64(sessions + 2) {
		o.Fixed(n).Text("a").Truth(true).Truth(false).Short(9).Short(1).Short(0)
	}
	b := taken(t, o.Bytes())
	for n := range uint64(3) {
		is(t, b.Open(session(99, "a"), 1, 1), api.ErrFull)
		is(t, b.End(session(n, "a")), api.OK)
	}
	is(t, b.Open(session(99, "a"), 1, 1), api.OK)
	is(t, b.Open(session(98, "a"), 1, 1), api.ErrFull)
}

// cut cuts a number as the chapter says.
func cut(v *big.Int) *big.Int {
	if v.Sign() < 0 {
		return big.NewInt(0)
	}
	if most := big.NewInt(lastTime); v.Cmp(most) > 0 {
		return most
	}
	return v
}

// sum is a time and a ttl, each cut, and so their sum.
func sum(time, ttl int) int {
	all := new(big.Int).Add(cut(big.NewInt(int64(time))), cut(big.NewInt(int64(ttl))))
	return int(cut(all).Int64())
}

// P16.2: the times of Open and Keep at their edges, and past them.
func TestTimes(t *testing.T) {
	s := session(3, "a")
	for _, time := range times() {
		for _, ttl := range times() {
			deadline, kept := sum(time, ttl), sum(0, ttl)
			knows(t, opened(t, s, ttl, time), s, lease.Info{Open: true, Deadline: deadline, Ttl: kept})
			for _, next := range times() {
				b := opened(t, s, ttl, time)
				is(t, b.Keep(s, next), api.OK)
				knows(t, b, s, lease.Info{Open: true, Deadline: max(deadline, sum(next, kept)), Ttl: kept})
			}
		}
	}
}

// P16.2: what is kept lasts longer, never less long.
func TestKeep(t *testing.T) {
	s := session(3, "a")
	b := opened(t, s, 10, 100)
	for _, k := range []struct{ time, deadline int }{{99, 110}, {100, 110}, {101, 111}, {0, 111}, {-5, 111}, {101, 111}, {500, 510}, {102, 510}} {
		is(t, b.Keep(s, k.time), api.OK)
		knows(t, b, s, lease.Info{Open: true, Deadline: k.deadline, Ttl: 10})
	}
	is(t, b.End(s), api.OK)
	is(t, b.Keep(s, 1000), api.ErrSession)
	knows(t, b, s, lease.Info{Dead: true})
	b.Tell(session(4, "a"), 1, lease.Answer{})
	is(t, b.Keep(session(4, "a"), 1000), api.ErrSession)
	knows(t, b, session(4, "a"), lease.Info{Served: 1})
}

// P16.2: what is ended is dead, and stays so.
func TestEnd(t *testing.T) {
	s, other := session(3, "a"), session(4, "a")
	b := opened(t, s, 10, 100)
	is(t, b.Open(other, 20, 200), api.OK)
	b.Tell(s, 8, lease.Answer{E: 10, N: 2, Granted: true})
	is(t, b.End(s), api.OK)
	knows(t, b, s, lease.Info{Dead: true, Served: 1})
	told(t, b, s, 8, lease.Answer{E: 10, N: 2, Granted: true}, true)
	knows(t, b, other, lease.Info{Open: true, Deadline: 220, Ttl: 20})
	is(t, b.End(s), api.ErrSession)
	is(t, b.Expire(s, 1000), api.ErrSession)
	is(t, b.Expire(s, 0), api.ErrSession)
	knows(t, b, s, lease.Info{Dead: true, Served: 1})
	b.Tell(session(5, "a"), 1, lease.Answer{})
	is(t, b.End(session(5, "a")), api.ErrSession)
	is(t, b.Expire(session(5, "a"), 7), api.ErrSession)
	knows(t, b, session(5, "a"), lease.Info{Served: 1})
}

// P16.2, P16.3: a session is due, and may expire, from its deadline on: the time isn't cut.
func TestExpire(t *testing.T) {
	s := session(3, "a")
	for _, deadline := range times() {
		was := sum(deadline, 0)
		for _, time := range append(times(), was-1, was, was+1) {
			b := opened(t, s, 0, deadline)
			b.Tell(s, 1, lease.Answer{})
			if time < was {
				lists(t, b.Due(time))
				is(t, b.Expire(s, time), api.ErrLease)
				knows(t, b, s, lease.Info{Open: true, Deadline: was, Served: 1})
				continue
			}
			lists(t, b.Due(time), s)
			is(t, b.Expire(s, time), api.OK)
			knows(t, b, s, lease.Info{Dead: true, Served: 1})
			lists(t, b.Due(time))
		}
	}
}

// many gives sessions by rising Num, then Foot, byte by byte: part by part, a/b would stand ahead of a-b.
func many() []cmd.Session {
	var l []cmd.Session
	for _, num := range []uint64{0, 1, 2, 10, 255, 256, 1 << 32, 1<<63 - 1, 1 << 63, math.MaxUint64} {
		for _, foot := range []string{"", "\x00", "-", "B", "a", "a-b", "a/b", "aa", "b", "\xc3\xa9", "\xff"} {
			l = append(l, session(num, foot))
		}
	}
	return l
}

// P16.3: all that are known, and the open ones whose time has come, in order, however they came.
func TestLists(t *testing.T) {
	all := many()
	r := rand.New(rand.NewSource(1))
	b := lease.New()
	for _, n := range r.Perm(len(all)) {
		s := all[n]
		if n%3 == 2 {
			b.Tell(s, 1, lease.Answer{})
			continue
		}
		is(t, b.Open(s, n, 1000), api.OK)
		if n%3 == 1 {
			is(t, b.End(s), api.OK)
		}
	}
	lists(t, b.Sessions(), all...)
	for _, time := range append(times(), 999, 1000, 1030, 1031, 1032, 1033, 1000+len(all)) {
		var due []cmd.Session
		for n, s := range all {
			if n%3 == 0 && 1000+n <= time {
				due = append(due, s)
			}
		}
		lists(t, b.Due(time), due...)
	}
}

// P16.3: the requests that were answered, rising.
func TestRequests(t *testing.T) {
	all := []uint64{0, 1, 2, 9, 10, 127, 128, 255, 256, 1<<32 - 1, 1 << 32, 1<<63 - 1, 1 << 63, math.MaxUint64}
	s, other := session(1, "a"), session(2, "a")
	for seed := range int64(20) {
		b := lease.New()
		for _, n := range rand.New(rand.NewSource(seed)).Perm(len(all)) {
			b.Tell(s, all[n], lease.Answer{N: uint64(n)})
		}
		b.Tell(other, 5, lease.Answer{})
		if got := b.Requests(s); !slices.Equal(got, all) {
			t.Error(got)
		}
		if got := b.Requests(other); !slices.Equal(got, []uint64{5}) {
			t.Error(got)
		}
	}
}

// P16.4: bytes, written out.
func TestPut(t *testing.T) {
	b := lease.New()
	open, over, asked := session(1, "a/b"), session(0x0102030405060708, ""), session(1, "a-b")
	is(t, b.Open(open, 300, 2), api.OK)
	is(t, b.Open(over, 1, 1), api.OK)
	is(t, b.End(over), api.OK)
	b.Tell(asked, 200, lease.Answer{E: api.ErrFoot, N: 0x0a0b, Granted: false})
	b.Tell(open, 300, lease.Answer{})
	b.Tell(open, 9, lease.Answer{N: math.MaxUint64, Granted: true})
	want := []byte{3}
	want = append(want, 0, 0, 0, 0, 0, 0, 0, 1, 3, 'a', '-', 'b', 0, 0, 0, 0, 1)
	want = append(want, 0xc8, 1, 55, 0, 0, 0, 0, 0, 0, 0x0a, 0x0b, 0)
	want = append(want, 0, 0, 0, 0, 0, 0, 0, 1, 3, 'a', '/', 'b', 1, 0, 0xae, 2, 0xac, 2, 2)
	want = append(want, 9, 0, 255, 255, 255, 255, 255, 255, 255, 255, 1)
	want = append(want, 0xac, 2, 0, 0, 0, 0, 0, 0, 0, 0, 0, 0)
	want = append(want, 1, 2, 3, 4, 5, 6, 7, 8, 0, 0, 1, 0, 0, 0)
	if got := written(b); !bytes.Equal(got, want) {
		t.Errorf("%x, not %x", got, want)
	}
	// Behind what was put already, and nothing is changed by it.
	o := new(wire.Out).Byte(77)
	b.Put(o)
	b.Put(o)
	if got := o.Bytes(); !bytes.Equal(got, slices.Concat([]byte{77}, want, want)) {
		t.Errorf("%x", got)
	}
}

// P16.4: two books that tell the same have the same bytes, whatever led to them; all else tells in the bytes.
func TestPutJustIf(t *testing.T) {
	s := session(1, "a")
	one := opened(t, s, 5, 3)
	one.Tell(s, 1, lease.Answer{N: 1})
	one.Tell(s, 2, lease.Answer{N: 2})
	two := lease.New()
	two.Tell(s, 2, lease.Answer{N: 2})
	two.Tell(s, 1, lease.Answer{N: 1})
	two.Keep(s, 9)
	two.Open(s, 5, -10)
	two.Keep(s, 3)
	two.Tell(s, 2, lease.Answer{N: 3})
	two.Expire(s, 7)
	if !bytes.Equal(written(one), written(two)) {
		t.Errorf("%x, %x", written(one), written(two))
	}
	seen := map[string]int{}
	for n, change := range []func(b *lease.Book){
		func(b *lease.Book) {},
		func(b *lease.Book) { b.Keep(s, 4) },
		func(b *lease.Book) { b.End(s) },
		func(b *lease.Book) { b.Tell(s, 3, lease.Answer{}) },
		func(b *lease.Book) { b.Tell(s, 4, lease.Answer{}) },
		func(b *lease.Book) { b.Tell(s, 4, lease.Answer{E: 10}) },
		func(b *lease.Book) { b.Tell(s, 4, lease.Answer{E: -10}) },
		func(b *lease.Book) { b.Tell(s, 4, lease.Answer{E: math.MaxInt}) },
		func(b *lease.Book) { b.Tell(s, 4, lease.Answer{E: math.MinInt}) },
		func(b *lease.Book) { b.Tell(s, 4, lease.Answer{N: 10}) },
		func(b *lease.Book) { b.Tell(s, 4, lease.Answer{Granted: true}) },
		func(b *lease.Book) { b.Tell(session(1, "b"), 3, lease.Answer{}) },
		func(b *lease.Book) { b.Tell(session(2, "a"), 3, lease.Answer{}) },
		func(b *lease.Book) { b.Open(session(2, "a"), 3, 3) },
		func(b *lease.Book) { b.Open(session(2, "a"), 2, 4) },
		func(b *lease.Book) { b.Open(session(2, "a"), 3, 3); b.End(session(2, "a")) },
	} {
		b := taken(t, written(one))
		change(b)
		if m, is := seen[string(written(b))]; is {
			t.Error(m, n)
		}
		seen[string(written(b))] = n
	}
}

// record is a session in bytes, written apart from the program.
type record struct {
	num           uint64
	foot          string
	open, dead    byte
	deadline, ttl uint64
	told          []reply
}

// reply is an answer in bytes.
type reply struct {
	request, e, n uint64
	granted       byte
}

// text is a record's bytes.
func (r record) text() []byte {
	b := binary.BigEndian.AppendUint64(nil, r.num)
	b = binary.AppendUvarint(b, uint64(len(r.foot)))
	b = append(b, r.foot...)
	b = append(b, r.open, r.dead)
	b = binary.AppendUvarint(b, r.deadline)
	b = binary.AppendUvarint(b, r.ttl)
	b = binary.AppendUvarint(b, uint64(len(r.told)))
	for _, a := range r.told {
		b = binary.AppendUvarint(b, a.request)
		b = binary.AppendUvarint(b, a.e)
		b = binary.BigEndian.AppendUint64(b, a.n)
		b = append(b, a.granted)
	}
	return b
}

// book is records' bytes.
func book(l ...record) []byte {
	b := binary.AppendUvarint(nil, uint64(len(l)))
	for _, r := range l {
		b = append(b, r.text()...)
	}
	return b
}

// some gives records with all that there is.
func some() []record {
	return []record{
		{num: 0},
		{num: 1, foot: "a", open: 1, deadline: 8, ttl: 5},
		{num: 1, foot: strings.Repeat("x", longest), open: 1, deadline: lastTime, ttl: lastTime, told: []reply{{request: 0}, {1, 55, 3, 1}, {math.MaxUint64, lastE, math.MaxUint64, 1}}},
		{num: 2, foot: "not a path!", dead: 1, told: []reply{{300, 10, 0, 0}}},
		{num: math.MaxUint64, foot: "\xff", open: 1},
	}
}

// P16.5: what was put is taken again, and what is known of nobody but by name, too.
func TestTake(t *testing.T) {
	all := book(some()...)
	b := taken(t, all)
	if got := written(b); !bytes.Equal(got, all) {
		t.Errorf("%x, not %x", got, all)
	}
	x := strings.Repeat("x", longest)
	lists(t, b.Sessions(), session(0, ""), session(1, "a"), session(1, x), session(2, "not a path!"), session(math.MaxUint64, "\xff"))
	knows(t, b, session(0, ""), lease.Info{})
	knows(t, b, session(1, "a"), lease.Info{Open: true, Deadline: 8, Ttl: 5})
	knows(t, b, session(1, x), lease.Info{Open: true, Deadline: lastTime, Ttl: lastTime, Served: 3})
	knows(t, b, session(2, "not a path!"), lease.Info{Dead: true, Served: 1})
	told(t, b, session(1, x), 1, lease.Answer{E: 55, N: 3, Granted: true}, true)
	told(t, b, session(1, x), math.MaxUint64, lease.Answer{E: lastE, N: math.MaxUint64, Granted: true}, true)
	told(t, b, session(2, "not a path!"), 300, lease.Answer{E: 10}, true)
	// It goes on like any other book.
	is(t, b.Open(session(0, ""), 1, 1), api.OK)
	is(t, b.Open(session(2, "not a path!"), 1, 1), api.ErrSession)
	is(t, b.Expire(session(1, "a"), 7), api.ErrLease)
	b.Tell(session(1, "a"), 3, lease.Answer{N: 4})
	told(t, b, session(1, "a"), 3, lease.Answer{N: 4}, true)
	knows(t, b, session(1, "a"), lease.Info{Open: true, Deadline: 8, Ttl: 5, Served: 1})
	if e := taken(t, []byte{0}); len(e.Sessions()) != 0 {
		t.Error(e)
	}
}

// P16.5: as many answers as MaxServed, and no more.
func TestTakeServed(t *testing.T) {
	r := record{num: 1, foot: "a", open: 1, deadline: 9, ttl: 1}
	for n := range uint64(served) {
		r.told = append(r.told, reply{request: 5 * n, n: n})
	}
	b := taken(t, book(r))
	if b.Room(session(1, "a")) || b.Info(session(1, "a")).Served != served {
		t.Error(b.Info(session(1, "a")))
	}
	r.told = append(r.told, reply{request: 5 * served})
	fails(t, book(r), api.ErrRange)
	// Not behind the part: not even one answer is looked at.
	fails(t, append(book(record{num: 1})[:14], 0x81, 2), api.ErrRange)
}

// fails tells whether taking a book fails as it should, and gives an empty one.
func fails(t *testing.T, b []byte, want api.Errno) {
	t.Helper()
	in := wire.NewIn(b)
	x := lease.Take(in)
	if e := in.End(); e != want {
		t.Errorf("%x: %d, not %d", b, e, want)
	}
	if !in.Failed() || !bytes.Equal(written(x), []byte{0}) {
		t.Errorf("%x: %x", b, written(x))
	}
	if e := x.Open(session(1, "a"), 1, 1); e != api.OK {
		t.Errorf("%x: %d", b, e)
	}
}

// P16.5: a book that is cut anywhere is too short, and one with something behind it isn't touched there.
func TestTakeCut(t *testing.T) {
	all := book(some()...)
	for n := range all {
		want := api.ErrShort
		if n > 0 && n < len(some()) {
			// The count of sessions is above that of bytes.
			want = api.ErrRange
		}
		fails(t, all[:n], want)
	}
	in := wire.NewIn(append(bytes.Clone(all), 1, 77, 78))
	if got := written(lease.Take(in)); !bytes.Equal(got, all) || !in.Truth() || in.Left() != 2 || in.End() != api.ErrLong {
		t.Errorf("%x", got)
	}
}

// P16.5: the count of sessions is at most that of the bytes that are left; its own errors are named first.
func TestTakeCount(t *testing.T) {
	greatest := bytes.Repeat([]byte{255}, 9)
	for _, c := range []struct {
		head []byte
		rest int
		want api.Errno
	}{
		{nil, 0, api.ErrShort},
		{[]byte{1}, 0, api.ErrShort},
		{[]byte{2}, 0, api.ErrRange},
		{[]byte{2}, 1, api.ErrShort},
		{[]byte{3}, 1, api.ErrRange},
		{[]byte{100}, 99, api.ErrShort},
		{[]byte{101}, 99, api.ErrRange},
		{[]byte{0x80}, 0, api.ErrShort},
		{[]byte{0x80, 0}, 50, api.ErrForm},
		{[]byte{0x81, 0}, 50, api.ErrForm},
		{[]byte{0x80, 1}, 125, api.ErrRange},
		{append(bytes.Clone(greatest), 1), 50, api.ErrRange},
		{append(bytes.Clone(greatest), 2), 50, api.ErrRange},
		{append(bytes.Clone(greatest), 255, 1), 50, api.ErrRange},
		{append(bytes.Clone(greatest[:8]), 127), 50, api.ErrRange},
	} {
		// What is left has few sessions, of no name: they don't rise, but are too few, which is named first.
		fails(t, append(c.head, make([]byte, c.rest)...), c.want)
	}
}

// P16.5: the error of each part, at each session and answer.
func TestTakeParts(t *testing.T) {
	bad := binary.AppendUvarint
	for _, at := range []int{0, 1, 4} {
		l := some()
		l[at] = record{num: l[at].num, foot: l[at].foot}
		head := book(l[:at]...)
		head[0] = 5
		head = binary.BigEndian.AppendUint64(head, l[at].num)
		named := append(bytes.Clone(head), 1, 'a')
		open := append(bytes.Clone(named), 1, 0)
		lasting := append(bytes.Clone(open), 7, 7)
		answered := append(bytes.Clone(lasting), 2, 3, 10, 0, 0, 0, 0, 0, 0, 0, 1, 1)
		tail := make([]byte, 100)
		for _, c := range []struct {
			b    []byte
			want api.Errno
		}{
			{bad(bytes.Clone(head), longest+1), api.ErrRange},
			{bad(bytes.Clone(head), math.MaxUint64), api.ErrRange},
			{append(bytes.Clone(named), 2, 0), api.ErrForm},
			{append(bytes.Clone(named), 1, 2), api.ErrForm},
			{append(bytes.Clone(named), 255, 255), api.ErrForm},
			{bad(bytes.Clone(open), lastTime+1), api.ErrRange},
			{bad(bytes.Clone(open), math.MaxUint64), api.ErrRange},
			{bad(append(bytes.Clone(open), 7), lastTime+1), api.ErrRange},
			{bad(bytes.Clone(lasting), served+1), api.ErrRange},
			{bad(append(bytes.Clone(answered), 4), lastE+1), api.ErrRange},
			{bad(append(bytes.Clone(answered), 4), math.MaxUint64), api.ErrRange},
			{append(bytes.Clone(answered), 4, 0, 0, 0, 0, 0, 0, 0, 0, 0, 2), api.ErrForm},
		} {
			fails(t, append(c.b, tail...), c.want)
		}
	}
}

// P16.5: a session that is open and dead, or has times without being open, and what doesn't rise.
func TestTakeForm(t *testing.T) {
	for _, l := range [][]record{
		{{open: 1, dead: 1}},
		{{open: 1, dead: 1, deadline: 8, ttl: 5}},
		{{dead: 1, deadline: 1}},
		{{dead: 1, ttl: 1}},
		{{deadline: 1}},
		{{ttl: 1}},
		{{deadline: lastTime, ttl: lastTime}},
		{{told: []reply{{request: 1}, {request: 1}}}},
		{{told: []reply{{request: 0}, {request: 0}}}},
		{{told: []reply{{request: 2}, {request: 1}}}},
		{{told: []reply{{request: 1}, {request: 3}, {request: 2}}}},
		{{told: []reply{{request: 3}, {request: 1}, {request: 4}}}},
		{{told: []reply{{request: math.MaxUint64}, {request: 0}}}},
		{{}, {}},
		{{num: 1}, {num: 1}},
		{{num: 1, foot: "a"}, {num: 1, foot: "a"}},
		{{num: 2}, {num: 1}},
		{{num: 1 << 63}, {num: 1}},
		{{num: 2, foot: "a"}, {num: 1, foot: "b"}},
		{{num: 1, foot: "b"}, {num: 1, foot: "a"}},
		{{num: 1, foot: "a/b"}, {num: 1, foot: "a-b"}},
		{{num: 1, foot: "a"}, {num: 1}},
		{{num: 1}, {num: 3}, {num: 2}},
		{{num: 3}, {num: 1}, {num: 4}},
		{{num: 1}, {num: 2}, {num: 1}},
	} {
		fails(t, book(l...), api.ErrForm)
		fails(t, book(append(l, record{num: math.MaxUint64, foot: "\xff\xff"})...), api.ErrForm)
		ahead := append([]record{{}}, l...)
		for n := range l {
			ahead[n+1].foot = "z" + ahead[n+1].foot
		}
		fails(t, book(ahead...), api.ErrForm)
		fails(t, append(book(l...), 1, 2, 3), api.ErrForm)
		// The parts' errors are named first, however far behind they stand.
		whole := book(append(l, some()[2])...)
		for n := len(book(l...)); n < len(whole); n++ {
			fails(t, whole[:n], api.ErrShort)
		}
		fails(t, book(append(l, record{num: math.MaxUint64, foot: strings.Repeat("x", longest+1)})...), api.ErrRange)
		fails(t, book(append(l, record{num: math.MaxUint64, open: 1, deadline: lastTime + 1})...), api.ErrRange)
		fails(t, book(append(l, record{num: math.MaxUint64, told: []reply{{e: lastE + 1}}})...), api.ErrRange)
	}
}

// P16.5: an input that has failed gives an empty book, and keeps its error.
func TestTakeFailed(t *testing.T) {
	for _, e := range []api.Errno{api.ErrTorn, api.ErrForm, -1, math.MaxInt} {
		in := wire.NewIn(book(some()...))
		in.Fail(e)
		b := lease.Take(in)
		if in.End() != e || len(b.Sessions()) != 0 {
			t.Error(e, in.End())
		}
		is(t, b.Open(session(1, "a"), 1, 1), api.OK)
	}
}

// entry is a session in the model.
type entry struct {
	s    cmd.Session
	info lease.Info
	told []uint64
	says []lease.Answer
}

// model is a book, as the chapter's words tell it: a list of entries, in order.
type model []*entry

// find is a session's entry, if it is known.
func (m model) find(s cmd.Session) *entry {
	for _, e := range m {
		if e.s == s {
			return e
		}
	}
	return &entry{s: s}
}

// know is a session's entry, known from now on.
func (m *model) know(s cmd.Session) *entry {
	for at, e := range *m {
		if e.s == s {
			return e
		}
		if s.Num < e.s.Num || s.Num == e.s.Num && s.Foot < e.s.Foot {
			*m = slices.Insert(*m, at, &entry{s: s})
			return (*m)[at]
		}
	}
	*m = append(*m, &entry{s: s})
	return (*m)[len(*m)-1]
}

// tell tells an answer.
func (m *model) tell(s cmd.Session, request uint64, a lease.Answer) {
	e := m.find(s)
	if len(e.told) >= served || slices.Contains(e.told, request) {
		return
	}
	e = m.know(s)
	e.told, e.says = append(e.told, request), append(e.says, a)
	e.info.Served = len(e.told)
}

// open opens a session.
func (m *model) open(s cmd.Session, ttl, time int) api.Errno {
	n := 0
	for _, e := range *m {
		if e.info.Open && e.s.Foot == s.Foot {
			n++
		}
	}
	switch e := m.find(s); {
	case e.info.Dead:
		return api.ErrSession
	case e.info.Open:
		return api.ErrTwice
	case n >= sessions:
		return api.ErrFull
	}
	e := m.know(s)
	e.info = lease.Info{Open: true, Deadline: sum(time, ttl), Ttl: sum(0, ttl), Served: len(e.told)}
	return api.OK
}

// keep, end and expire do likewise.
func (m model) keep(s cmd.Session, time int) api.Errno {
	e := m.find(s)
	if !e.info.Open {
		return api.ErrSession
	}
	if later := sum(time, e.info.Ttl); later > e.info.Deadline {
		e.info.Deadline = later
	}
	return api.OK
}

func (m model) expire(s cmd.Session, time int) api.Errno {
	e := m.find(s)
	if !e.info.Open {
		return api.ErrSession
	}
	if time < e.info.Deadline {
		return api.ErrLease
	}
	e.info = lease.Info{Dead: true, Served: len(e.told)}
	return api.OK
}

// bytes are the model's bytes.
func (m model) bytes() []byte {
	bit := map[bool]byte{true: 1}
	var l []record
	for _, e := range m {
		r := record{num: e.s.Num, foot: e.s.Foot, open: bit[e.info.Open], dead: bit[e.info.Dead], deadline: uint64(e.info.Deadline), ttl: uint64(e.info.Ttl)}
		for at, request := range e.told {
			a := e.says[at]
			r.told = append(r.told, reply{request, uint64(a.E), a.N, bit[a.Granted]})
		}
		slices.SortFunc(r.told, func(a, b reply) int {
			if a.request < b.request {
				return -1
			}
			return 1
		})
		l = append(l, r)
	}
	return book(l...)
}

// same tells whether a book tells all that the model does.
func (m model) same(t *testing.T, b *lease.Book, asked []cmd.Session, time int) {
	t.Helper()
	var all, due []cmd.Session
	for _, e := range m {
		all = append(all, e.s)
		if e.info.Open && e.info.Deadline <= time {
			due = append(due, e.s)
		}
	}
	lists(t, b.Sessions(), all...)
	lists(t, b.Due(time), due...)
	for _, s := range asked {
		e := m.find(s)
		knows(t, b, s, e.info)
		if b.Room(s) != (len(e.told) < served) {
			t.Error(s, b.Room(s))
		}
		if got := b.Requests(s); !slices.Equal(got, slices.Sorted(slices.Values(e.told))) {
			t.Error(s, got)
		}
		for at, request := range e.told {
			told(t, b, s, request, e.says[at], true)
		}
	}
	if got, want := written(b), m.bytes(); !bytes.Equal(got, want) {
		t.Fatalf("%x, not %x", got, want)
	}
}

// P16.1 to P16.5: anything done in any order, against the chapter's words; at times what was put goes on.
func TestModel(t *testing.T) {
	for seed := range int64(60) {
		r := rand.New(rand.NewSource(seed))
		var pool []cmd.Session
		for range 1 + r.Intn(120) {
			pool = append(pool, session(uint64(r.Intn(50)), []string{"a", "a/b", "a-b", "", "b"}[r.Intn(1+r.Intn(5))]))
		}
		b, m := lease.New(), model{}
		time := 0
		for step := range 600 {
			s := pool[r.Intn(len(pool))]
			time += r.Intn(3)
			at := time - r.Intn(5)
			if r.Intn(20) == 0 {
				at = times()[r.Intn(len(times()))]
			}
			switch r.Intn(10) {
			case 0, 1, 2:
				ttl := r.Intn(60)
				if r.Intn(20) == 0 {
					ttl = times()[r.Intn(len(times()))]
				}
				is(t, b.Open(s, ttl, at), m.open(s, ttl, at))
			case 3, 4:
				is(t, b.Keep(s, at), m.keep(s, at))
			case 5:
				if r.Intn(3) == 0 {
					is(t, b.End(s), m.expire(s, math.MaxInt))
				}
			case 6:
				is(t, b.Expire(s, at), m.expire(s, at))
			case 7, 8:
				request, a := uint64(r.Intn(40)), lease.Answer{E: api.Errno(r.Intn(70)), N: uint64(r.Intn(9)), Granted: r.Intn(2) == 0}
				b.Tell(s, request, a)
				m.tell(s, request, a)
			case 9:
				b = taken(t, written(b))
			}
			if step%40 == 0 {
				m.same(t, b, pool, at)
			}
		}
		m.same(t, b, pool, time)
	}
}

// over is a text whose bytes are some others'.
func over(b []byte) string {
	return unsafe.String(unsafe.SliceData(b), len(b))
}

// P1, and the rules: what is handed in isn't kept, even where the session was known.
func TestHandedIn(t *testing.T) {
	foot := []byte("ab")
	s := session(1, over(foot))
	b := lease.New()
	b.Tell(s, 1, lease.Answer{N: 5})
	is(t, b.Open(s, 3, 3), api.OK)
	is(t, b.Keep(s, 4), api.OK)
	b.Tell(s, 2, lease.Answer{N: 6})
	copy(foot, "zz")
	for range 2 {
		lists(t, b.Sessions(), session(1, "ab"))
		lists(t, b.Due(7), session(1, "ab"))
		knows(t, b, session(1, "ab"), lease.Info{Open: true, Deadline: 7, Ttl: 3, Served: 2})
		told(t, b, session(1, "ab"), 2, lease.Answer{N: 6}, true)
		knows(t, b, session(1, "zz"), lease.Info{})
	}
	copy(foot, "ab")
	is(t, b.Expire(s, 7), api.OK)
	copy(foot, "yy")
	lists(t, b.Sessions(), session(1, "ab"))
	knows(t, b, session(1, "ab"), lease.Info{Dead: true, Served: 2})
	// The bytes of an input may be used for something else behind the taking.
	all := book(some()...)
	c := taken(t, all)
	was := written(c)
	clear(all)
	if !bytes.Equal(written(c), was) {
		t.Error("bytes are kept")
	}
}

// P1, and the rules: what is told is new memory, its texts and its spare room, too.
func TestToldMemory(t *testing.T) {
	b := lease.New()
	for n := range uint64(5) {
		is(t, b.Open(session(n, "some/foot"), 1, 1), api.OK)
		b.Tell(session(n, "some/foot"), n, lease.Answer{N: n})
		b.Tell(session(n, "some/foot"), n+7, lease.Answer{N: n})
	}
	was := written(b)
	seen := map[*byte]bool{}
	for range 3 {
		for _, l := range [][]cmd.Session{b.Sessions(), b.Due(2)} {
			if len(l) != 5 {
				t.Fatal(l)
			}
			for n, s := range l {
				at := unsafe.StringData(s.Foot)
				if seen[at] {
					t.Error("a text is told twice")
				}
				seen[at] = true
				copy(unsafe.Slice(unsafe.StringData(s.Foot), len(s.Foot)), "SPOIL")
				l[n] = session(99, "z")
			}
			clear(l[:cap(l)])
		}
		r := b.Requests(session(3, "some/foot"))
		clear(r[:cap(r)])
		if !bytes.Equal(written(b), was) {
			t.Fatal("what is told is kept")
		}
	}
}

// P1: no numbers and no texts make a call panic.
func TestAny(t *testing.T) {
	nums := []uint64{0, 1, 1 << 63, math.MaxUint64}
	feet := []string{"", "a", "\x00", strings.Repeat("y", 1000), "é", "\xff\xfe"}
	b := lease.New()
	for _, num := range nums {
		for _, foot := range feet {
			s := session(num, foot)
			for _, time := range times() {
				for _, ttl := range times() {
					b.Open(s, ttl, time)
					b.Keep(s, ttl)
				}
				b.Expire(s, time)
				b.Due(time)
			}
			for _, request := range nums {
				for _, e := range []api.Errno{math.MinInt, -1, 0, math.MaxInt} {
					b.Tell(s, request, lease.Answer{E: e, N: request})
					b.Told(s, request)
				}
			}
			b.Open(s, 1, 1)
			b.End(s)
		}
	}
	if len(b.Sessions()) != len(nums)*len(feet) {
		t.Error(len(b.Sessions()))
	}
	// A foot that is too long for a path is put as it is, and not taken again.
	fails(t, written(b), api.ErrRange)
}

// P1: many sessions and answers are no trouble.
func TestMany(t *testing.T) {
	b := lease.New()
	for n := range 2000 {
		s := session(uint64(n), fmt.Sprint("a", n/sessions))
		is(t, b.Open(s, 1, n), api.OK)
		b.Tell(s, 1, lease.Answer{N: 1})
	}
	if got := taken(t, written(b)); !bytes.Equal(written(got), written(b)) || len(got.Due(1000)) != 1000 {
		t.Error(len(got.Due(1000)))
	}
}

// P1, P16.4, P16.5: any bytes are taken, or refused; what was taken is put as it was.
func FuzzTake(f *testing.F) {
	f.Add([]byte{0})
	f.Add([]byte{1})
	f.Add(book(some()...))
	for _, r := range some() {
		f.Add(book(r))
	}
	f.Add(book(record{open: 1, dead: 1}))
	f.Fuzz(func(t *testing.T, b []byte) {
		in := wire.NewIn(b)
		x := lease.Take(in)
		if in.Failed() {
			if len(x.Sessions()) != 0 {
				t.Error(x.Sessions())
			}
			return
		}
		if got := written(x); !bytes.Equal(got, b[:len(b)-in.Left()]) {
			t.Errorf("%x, not %x", got, b)
		}
		for _, s := range x.Sessions() {
			i := x.Info(s)
			if i.Open && i.Dead || i.Served != len(x.Requests(s)) {
				t.Error(s, i)
			}
		}
	})
}
