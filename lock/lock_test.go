package lock_test

import (
	"bytes"
	"encoding/binary"
	"fmt"
	"math"
	"math/rand"
	"slices"
	"strings"
	"testing"
	"unsafe"

	"moothill/api"
	"moothill/cmd"
	"moothill/lock"
	"moothill/wire"
)

const (
	shared      = 1
	exclusive   = 2
	held        = 64
	longest     = 64
	lastCounter = 1<<63 - 1
	lastStamp   = 1<<62 - 1
)

// session gives a session.
func session(num uint64, foot string) cmd.Session {
	return cmd.Session{Num: num, Foot: foot}
}

// one gives the session of a number, all with one foot.
func one(num uint64) cmd.Session {
	return session(num, "a")
}

// long is a path of as many bytes as a path may have.
func long() string {
	return strings.Repeat("x", longest)
}

// wrongPaths gives texts that are no paths.
func wrongPaths() []string {
	return []string{"", "/", "a/", "/a", "a//b", "A", "a b", ".", "a/..", "*", "é", "\x00", "\xff", "a/b/c/d/e/f/g/h/i", long() + "x", strings.Repeat("y/", 500)}
}

// wrongModes gives numbers that are no modes.
func wrongModes() []int {
	return []int{math.MinInt, -1, 0, 3, 4, 257, 258, math.MaxInt}
}

// is tells whether an error is the right one.
func is(t *testing.T, got, want api.Errno) {
	t.Helper()
	if got != want {
		t.Errorf("%d, not %d", got, want)
	}
}

// adds adds an entry, which must go well.
func adds(t *testing.T, b *lock.Book, p string, s cmd.Session, mode int) lock.Entry {
	t.Helper()
	is(t, b.May(p, s, mode), api.OK)
	e, err := b.Add(p, s, mode)
	if err != api.OK || e.Path != p || e.Session != s || e.Mode != mode {
		t.Fatalf("%s %v %d: %v %d", p, s, mode, e, err)
	}
	return e
}

// refuses tells whether an entry is refused, with an error, and nothing is changed.
func refuses(t *testing.T, b *lock.Book, p string, s cmd.Session, mode int, want api.Errno) {
	t.Helper()
	was := written(b)
	is(t, b.May(p, s, mode), want)
	if e, err := b.Add(p, s, mode); err != want || e != (lock.Entry{}) {
		t.Errorf("%q %v %d: %v %d, not %d", p, s, mode, e, err, want)
	}
	if !bytes.Equal(written(b), was) {
		t.Errorf("%q %v %d changes the book", p, s, mode)
	}
}

// lists tells whether these are the entries.
func lists(t *testing.T, got []lock.Entry, want ...lock.Entry) {
	t.Helper()
	if !slices.Equal(got, want) {
		t.Errorf("%v, not %v", got, want)
	}
}

// stuck tells whether these are the sessions that wait for themselves.
func stuck(t *testing.T, b *lock.Book, want ...cmd.Session) {
	t.Helper()
	if got := b.Stuck(); !slices.Equal(got, want) {
		t.Errorf("%v, not %v", got, want)
	}
}

// granted tells whether these entries of a book are granted, and no others.
func granted(t *testing.T, b *lock.Book, want ...lock.Entry) {
	t.Helper()
	for _, e := range b.List() {
		ok := slices.Contains(want, e)
		if b.Granted(e) != ok || (len(b.Ahead(e)) == 0) != ok || b.Check(e.Path, e.N) != ok {
			t.Errorf("%v: %t, not %t", e, b.Granted(e), ok)
		}
	}
}

// written is what a book puts.
func written(b *lock.Book) []byte {
	o := new(wire.Out)
	b.Put(o)
	return o.Bytes()
}

// taken is the book of bytes, in which nothing else stands.
func taken(t *testing.T, b []byte, first uint64) *lock.Book {
	t.Helper()
	in := wire.NewIn(b)
	x := lock.Take(in, first)
	if e := in.End(); e != api.OK {
		t.Fatalf("%x: %d", b, e)
	}
	return x
}

// P17.1, P17.2: the chapter's example.
func TestExample(t *testing.T) {
	b := lock.New(0)
	x := adds(t, b, "a/b", one(1), exclusive)
	y := adds(t, b, "a", one(2), exclusive)
	z := adds(t, b, "a/c", one(3), shared)
	granted(t, b, x)
	lists(t, b.Ahead(y), x)
	lists(t, b.Ahead(z), y)
	is(t, b.Remove("a/b", one(1)), api.OK)
	granted(t, b, y)
	is(t, b.Remove("a", one(2)), api.OK)
	granted(t, b, z)
}

// P17.1, P17.2: no entries; and no two books have anything together.
func TestNew(t *testing.T) {
	other := lock.New(5)
	for _, first := range []uint64{0, 1, 5, lastCounter - 1, lastCounter, 1 << 63, math.MaxUint64} {
		b := lock.New(first)
		lists(t, b.List())
		stuck(t, b)
		for _, p := range append(wrongPaths(), "a", "a/b", long()) {
			if b.Counter(p) != first || b.Check(p, first) || b.Check(p, 0) || b.Drop(session(1, p)) != 0 {
				t.Error(p)
			}
			if e, ok := b.Find(p, one(1)); ok || e != (lock.Entry{}) {
				t.Error(p, e, ok)
			}
			e := lock.Entry{Path: p, Session: one(1), Mode: exclusive, N: first, Stamp: 1}
			if b.Granted(e) || b.Granted(lock.Entry{}) || len(b.Ahead(e)) != 0 {
				t.Error(p)
			}
			is(t, b.Remove(p, one(1)), api.ErrLock)
		}
		if got := written(b); !bytes.Equal(got, []byte{0, 0}) {
			t.Error(got)
		}
		adds(t, other, "a", session(first, "b"), shared)
	}
}

// P17.1: N is a path's counter, which goes on from the first number, for each path alone, and stays when entries go.
func TestAdd(t *testing.T) {
	for _, first := range []uint64{0, 1, 7, 1 << 32, lastCounter - 5} {
		b := lock.New(first)
		for n := range uint64(3) {
			for _, p := range []string{"a", "a/b", "b", "a/b/c", "ab"} {
				if got := b.Counter(p); got != first+n {
					t.Error(p, got)
				}
				e := adds(t, b, p, one(n), exclusive)
				if e.N != first+n+1 || b.Counter(p) != e.N {
					t.Error(e, b.Counter(p))
				}
				if got, ok := b.Find(p, one(n)); got != e || !ok {
					t.Error(got, ok)
				}
			}
		}
		is(t, b.Remove("a", one(2)), api.OK)
		if b.Counter("a") != first+3 || b.Drop(one(1)) != 5 || b.Counter("a/b") != first+3 {
			t.Error(b.Counter("a"))
		}
		if e := adds(t, b, "a", one(2), shared); e.N != first+4 {
			t.Error(e)
		}
		if b.Counter("c") != first || b.Counter("a/b/c/d") != first || b.Counter("A") != first {
			t.Error("others are changed")
		}
	}
}

// P17.1: a stamp is one more than the greatest one of what overlaps, and is there; whatever the modes and the sessions.
func TestStamp(t *testing.T) {
	b := lock.New(0)
	for n, x := range []struct {
		p     string
		s     uint64
		mode  int
		stamp int
	}{
		{"a/b", 1, shared, 1},
		{"a/c", 1, exclusive, 1},
		{"a/b", 2, shared, 2},
		{"a/b/c", 1, shared, 3},
		{"a/b/d", 1, exclusive, 3},
		{"a/c/d", 1, exclusive, 2},
		{"ab", 1, exclusive, 1},
		{"a", 1, shared, 4},
		{"a/x", 1, shared, 5},
		{"a/b", 3, exclusive, 5},
		{"b", 1, exclusive, 1},
	} {
		if e := adds(t, b, x.p, one(x.s), x.mode); e.Stamp != x.stamp {
			t.Error(n, e)
		}
	}
	// What has gone doesn't count any more.
	is(t, b.Remove("a/b", one(3)), api.OK)
	is(t, b.Remove("a", one(1)), api.OK)
	if e := adds(t, b, "a/b", one(4), shared); e.Stamp != 4 {
		t.Error(e)
	}
	b.Drop(one(1))
	b.Drop(one(2))
	if e := adds(t, b, "a/b/c", one(5), shared); e.Stamp != 5 {
		t.Error(e)
	}
	b.Drop(one(4))
	b.Drop(one(5))
	if e := adds(t, b, "a", one(5), shared); e.Stamp != 1 {
		t.Error(e)
	}
}

// P17.1: ErrForm, of what is no path, and no mode.
func TestAddForm(t *testing.T) {
	b := lock.New(3)
	adds(t, b, "a", one(1), shared)
	for _, p := range wrongPaths() {
		for _, mode := range append(wrongModes(), shared, exclusive) {
			refuses(t, b, p, one(1), mode, api.ErrForm)
			if b.Could(p, mode) {
				t.Error(p, mode)
			}
		}
	}
	for _, mode := range wrongModes() {
		refuses(t, b, "a", one(1), mode, api.ErrForm)
		refuses(t, b, "b", one(2), mode, api.ErrForm)
		if b.Could("b", mode) {
			t.Error(mode)
		}
	}
	// Of sessions nothing is asked.
	for _, s := range []cmd.Session{{}, session(math.MaxUint64, "A/é"), session(1, strings.Repeat("y", 1000))} {
		adds(t, b, "a", s, shared)
	}
}

// P17.1: ErrTwice, if the session has an entry on this very path.
func TestAddTwice(t *testing.T) {
	b := lock.New(0)
	s := session(1, "a/b")
	adds(t, b, "a/b", s, shared)
	refuses(t, b, "a/b", s, shared, api.ErrTwice)
	refuses(t, b, "a/b", s, exclusive, api.ErrTwice)
	for _, p := range []string{"a", "a/b/c", "a/b-", "a/bb", "a/a"} {
		adds(t, b, p, s, shared)
		refuses(t, b, p, s, shared, api.ErrTwice)
	}
	for _, other := range []cmd.Session{session(1, "a"), session(2, "a/b"), session(0, "a/b"), session(1, "a/b/c"), session(1, "")} {
		adds(t, b, "a/b", other, exclusive)
		refuses(t, b, "a/b", other, shared, api.ErrTwice)
	}
	is(t, b.Remove("a/b", s), api.OK)
	adds(t, b, "a/b", s, exclusive)
}

// P17.1: ErrFull, if the session has MaxHeld entries, those that wait, too.
func TestAddFull(t *testing.T) {
	b := lock.New(0)
	s, other := session(1, "a"), session(1, "b")
	for n := range held {
		mode := shared + n%2
		adds(t, b, fmt.Sprint("a/", n), s, mode)
		adds(t, b, fmt.Sprint("a/", n), other, mode)
	}
	for range 2 {
		refuses(t, b, "a", s, shared, api.ErrFull)
		refuses(t, b, "b", s, exclusive, api.ErrFull)
		refuses(t, b, "a/7", s, shared, api.ErrTwice)
		refuses(t, b, "A", s, shared, api.ErrForm)
		refuses(t, b, "b", s, 3, api.ErrForm)
		adds(t, b, "b", session(2, "a"), exclusive)
		is(t, b.Remove("b", session(2, "a")), api.OK)
		is(t, b.Remove("a/9", s), api.OK)
		adds(t, b, "a/9/9", s, shared)
		refuses(t, b, "a/9", s, shared, api.ErrFull)
		is(t, b.Remove("a/9/9", s), api.OK)
		adds(t, b, "a/9", s, shared)
	}
	// What could be granted doesn't hang on whose it would be.
	if !b.Could("b", exclusive) || b.Could("a", shared) {
		t.Error("could")
	}
	if n := b.Drop(s); n != held {
		t.Error(n)
	}
	adds(t, b, "a", s, shared)
}

// P17.1: ErrExhausted, from the last counter on, of that path alone.
func TestAddExhausted(t *testing.T) {
	b := lock.New(lastCounter - 2)
	for n := range uint64(2) {
		if e := adds(t, b, "a", one(n), exclusive); e.N != lastCounter-1+n {
			t.Error(e)
		}
	}
	refuses(t, b, "a", one(2), shared, api.ErrExhausted)
	refuses(t, b, "a", one(1), shared, api.ErrTwice)
	refuses(t, b, "a", one(2), 0, api.ErrForm)
	if b.Counter("a") != lastCounter || b.Could("a", shared) {
		t.Error(b.Counter("a"))
	}
	b.Drop(one(0))
	b.Drop(one(1))
	refuses(t, b, "a", one(2), shared, api.ErrExhausted)
	if !b.Could("a", exclusive) {
		t.Error("nothing is in its way")
	}
	for n := range held {
		adds(t, b, fmt.Sprint("b/", n), one(3), exclusive)
	}
	refuses(t, b, "a", one(3), shared, api.ErrFull)
	for _, first := range []uint64{lastCounter, lastCounter + 1, math.MaxUint64 - 1, math.MaxUint64} {
		b := lock.New(first)
		refuses(t, b, "a", one(1), shared, api.ErrExhausted)
		refuses(t, b, "a", one(1), 3, api.ErrForm)
		if !b.Could("a", shared) {
			t.Error(first)
		}
	}
}

// P17.1: what came now would be granted, if nothing is in its way, waiting or not.
func TestCould(t *testing.T) {
	b := lock.New(0)
	could := func(p string, ofShared, ofExclusive bool) {
		t.Helper()
		was := written(b)
		if b.Could(p, shared) != ofShared || b.Could(p, exclusive) != ofExclusive {
			t.Errorf("%s: %t %t", p, b.Could(p, shared), b.Could(p, exclusive))
		}
		if !bytes.Equal(written(b), was) {
			t.Error("could changes the book")
		}
	}
	could("a/b", true, true)
	adds(t, b, "a/b", one(1), shared)
	for _, p := range []string{"a", "a/b", "a/b/c"} {
		could(p, true, false)
	}
	for _, p := range []string{"b", "a/c", "a/b-", "a/bb", "ab"} {
		could(p, true, true)
	}
	// It waits, but what comes later must wait for it.
	adds(t, b, "a/b/c", one(2), exclusive)
	could("a", false, false)
	could("a/b", false, false)
	could("a/b/c", false, false)
	could("a/b/c/d", false, false)
	could("a/b/d", true, false)
	is(t, b.Remove("a/b/c", one(2)), api.OK)
	could("a/b", true, false)
	is(t, b.Remove("a/b", one(1)), api.OK)
	could("a", true, true)
}

// P17.1: an entry of this very session on this very path goes.
func TestRemove(t *testing.T) {
	b := lock.New(0)
	s := session(1, "a")
	x, y := adds(t, b, "a/b", s, shared), adds(t, b, "a/b/c", s, shared)
	z := adds(t, b, "a/b", session(2, "a"), shared)
	for _, e := range []lock.Entry{{Path: "a", Session: s}, {Path: "a/b", Session: session(1, "b")}, {Path: "a/b", Session: session(3, "a")}, {Path: "A", Session: s}, {}} {
		is(t, b.Remove(e.Path, e.Session), api.ErrLock)
	}
	lists(t, b.List(), x, z, y)
	is(t, b.Remove("a/b", s), api.OK)
	lists(t, b.List(), z, y)
	is(t, b.Remove("a/b", s), api.ErrLock)
	if _, ok := b.Find("a/b", s); ok || b.Granted(x) || b.Check("a/b", x.N) {
		t.Error("it is there still")
	}
	is(t, b.Remove("a/b", session(2, "a")), api.OK)
	is(t, b.Remove("a/b/c", s), api.OK)
	lists(t, b.List())
}

// P17.1: all entries of this very session go, granted or not.
func TestDrop(t *testing.T) {
	b := lock.New(0)
	s := session(7, "a")
	var stay []lock.Entry
	for n, other := range []cmd.Session{session(7, "b"), session(8, "a"), session(7, "a/a"), session(7, "")} {
		stay = append(stay, adds(t, b, fmt.Sprint("a/", n), other, exclusive))
	}
	if b.Drop(s) != 0 {
		t.Error("none of its")
	}
	for n := range held {
		adds(t, b, fmt.Sprint("a/", n), s, exclusive)
	}
	if n := b.Drop(s); n != held {
		t.Error(n)
	}
	lists(t, b.List(), stay...)
	granted(t, b, stay...)
	if b.Drop(s) != 0 || b.Counter("a/0") != 2 {
		t.Error("they are there still")
	}
}

// P17.2: a session's entry on a path, of both just these.
func TestFind(t *testing.T) {
	b := lock.New(0)
	e := adds(t, b, "a/b", session(1, "a"), exclusive)
	if got, ok := b.Find("a/b", session(1, "a")); got != e || !ok || e != (lock.Entry{Path: "a/b", Session: session(1, "a"), Mode: exclusive, N: 1, Stamp: 1}) {
		t.Error(got, ok)
	}
	for _, x := range []lock.Entry{{Path: "a", Session: session(1, "a")}, {Path: "a/b/c", Session: session(1, "a")}, {Path: "a/b", Session: session(2, "a")}, {Path: "a/b", Session: session(1, "b")}, {Path: "A"}, {}} {
		if got, ok := b.Find(x.Path, x.Session); ok || got != (lock.Entry{}) {
			t.Error(x, got, ok)
		}
	}
}

// P17.2: an entry is granted just as the book has it, and if nothing ahead is in its way.
func TestGranted(t *testing.T) {
	b := lock.New(0)
	x := adds(t, b, "a", one(1), shared)
	y := adds(t, b, "a", one(2), shared)
	z := adds(t, b, "a", one(3), exclusive)
	w := adds(t, b, "a", one(4), shared)
	v := adds(t, b, "b", one(4), exclusive)
	granted(t, b, x, y, v)
	for _, change := range []func(e *lock.Entry){
		func(e *lock.Entry) { e.Path = "b" },
		func(e *lock.Entry) { e.Session.Num++ },
		func(e *lock.Entry) { e.Session.Foot = "b" },
		func(e *lock.Entry) { e.Mode = 3 - e.Mode },
		func(e *lock.Entry) { e.N++ },
		func(e *lock.Entry) { e.Stamp++ },
		func(e *lock.Entry) { e.Stamp-- },
		func(e *lock.Entry) { *e = lock.Entry{} },
	} {
		for _, e := range []lock.Entry{x, y, z, w} {
			change(&e)
			if b.Granted(e) {
				t.Error(e)
			}
		}
	}
	b.Drop(one(1))
	granted(t, b, y, v)
	b.Drop(one(2))
	granted(t, b, z, v)
	b.Drop(one(3))
	granted(t, b, w, v)
}

// P17.1, P17.2: what is in whose way: by paths, and modes; a session's own entries, too.
func TestInTheWay(t *testing.T) {
	paths := []string{"a", "a/b", "a/b/c", "a/c", "ab", "a-b", "b", "b/a"}
	for _, p := range paths {
		for _, q := range paths {
			for modes := range 4 {
				for _, s := range []cmd.Session{one(1), one(2)} {
					if p == q && s == one(1) {
						continue
					}
					first, second := shared+modes&1, shared+modes>>1
					b := lock.New(0)
					x, y := adds(t, b, p, one(1), first), lock.Entry{}
					could := b.Could(q, second)
					y = adds(t, b, q, s, second)
					overlap := strings.HasPrefix(p+"/", q+"/") || strings.HasPrefix(q+"/", p+"/")
					want := !overlap || first == shared && second == shared
					if !b.Granted(x) || b.Granted(y) != want || could != want {
						t.Error(x, y)
					}
					if stamp := map[bool]int{true: 2, false: 1}[overlap]; y.Stamp != stamp {
						t.Error(x, y)
					}
				}
			}
		}
	}
}

// P17.2: a sequencer is valid while its entry is granted.
func TestCheck(t *testing.T) {
	b := lock.New(10)
	x, y := adds(t, b, "a", one(1), exclusive), adds(t, b, "a/b", one(2), exclusive)
	z := adds(t, b, "a/b", one(3), exclusive)
	checks := func(p string, want ...uint64) {
		t.Helper()
		for _, n := range []uint64{0, 1, 9, 10, 11, 12, 13, math.MaxUint64} {
			if b.Check(p, n) != slices.Contains(want, n) {
				t.Error(p, n)
			}
		}
	}
	if x.N != 11 || y.N != 11 || z.N != 12 {
		t.Error(x, y, z)
	}
	checks("a", 11)
	checks("a/b")
	checks("b")
	checks("A")
	is(t, b.Remove("a", one(1)), api.OK)
	checks("a")
	checks("a/b", 11)
	b.Drop(one(2))
	checks("a/b", 12)
	b.Drop(one(3))
	checks("a/b")
	// Of what was taken several may have one number.
	two := []record{{path: "a", num: 1, mode: 2, n: 5, stamp: 1}, {path: "a", num: 2, mode: 2, n: 5, stamp: 2}, {path: "a", num: 3, mode: 2, stamp: 3}}
	b = taken(t, book(two, nil), 10)
	checks("a")
	if !b.Check("a", 5) {
		t.Error("the first one is granted")
	}
	b.Drop(session(1, ""))
	b.Drop(session(2, ""))
	checks("a", 0)
}

// P17.2: the order of all entries: by the paths' parts, then by stamps.
func TestList(t *testing.T) {
	paths := []string{"a", "a/b", "a/b/c", "a/b-", "a/bb", "a-", "a-/b", "a0", "aa", "b"}
	for seed := range int64(30) {
		r := rand.New(rand.NewSource(seed))
		b := lock.New(0)
		want := map[string][]lock.Entry{}
		for _, n := range r.Perm(3 * len(paths)) {
			p := paths[n/3]
			want[p] = append(want[p], adds(t, b, p, session(uint64(n%3), string(rune('c'-n%3))), 1+r.Intn(2)))
		}
		var all []lock.Entry
		for _, p := range paths {
			all = append(all, want[p]...)
		}
		lists(t, b.List(), all...)
	}
}

// P17.5: what is ahead of any entry, in the book or not, and in its way.
func TestAhead(t *testing.T) {
	b := lock.New(0)
	x := adds(t, b, "a/b", one(1), shared)
	y := adds(t, b, "a/b", one(2), shared)
	z := adds(t, b, "a", one(3), exclusive)
	w := adds(t, b, "a/c", one(1), shared)
	v := adds(t, b, "b", one(1), exclusive)
	lists(t, b.Ahead(x))
	lists(t, b.Ahead(y))
	lists(t, b.Ahead(z), x, y)
	lists(t, b.Ahead(w), z)
	lists(t, b.Ahead(v))
	lists(t, b.Ahead(lock.Entry{}))
	lists(t, b.Ahead(lock.Entry{Path: "a", Mode: exclusive, Stamp: math.MaxInt}), z, x, y, w)
	lists(t, b.Ahead(lock.Entry{Path: "a", Mode: exclusive, Stamp: 4}), z, x, y)
	lists(t, b.Ahead(lock.Entry{Path: "a", Mode: exclusive, Stamp: 2}), x)
	lists(t, b.Ahead(lock.Entry{Path: "a", Mode: exclusive, Stamp: 1}))
	lists(t, b.Ahead(lock.Entry{Path: "a", Mode: exclusive, Stamp: math.MinInt}))
	lists(t, b.Ahead(lock.Entry{Path: "a", Mode: shared, Stamp: math.MaxInt}), z)
	lists(t, b.Ahead(lock.Entry{Path: "a/c/d/e", Mode: exclusive, Stamp: math.MaxInt, Session: one(3)}), z, w)
	lists(t, b.Ahead(lock.Entry{Path: "c", Mode: exclusive, Stamp: math.MaxInt}))
	for _, mode := range wrongModes() {
		// Neither it is exclusive: what is, is in its way.
		lists(t, b.Ahead(lock.Entry{Path: "a", Mode: mode, Stamp: math.MaxInt}), z)
	}
	for _, p := range wrongPaths() {
		lists(t, b.Ahead(lock.Entry{Path: p, Mode: exclusive, Stamp: math.MaxInt}))
	}
}

// P17.5: sessions that wait for themselves: by others, or at once.
func TestStuck(t *testing.T) {
	b := lock.New(0)
	adds(t, b, "x", one(1), exclusive)
	adds(t, b, "y", one(2), exclusive)
	adds(t, b, "y", one(1), exclusive)
	stuck(t, b)
	adds(t, b, "x", one(2), shared)
	stuck(t, b, one(1), one(2))
	// It waits for one that waits for itself, and nobody waits for it.
	adds(t, b, "x", one(0), exclusive)
	adds(t, b, "z", one(0), exclusive)
	stuck(t, b, one(1), one(2))
	// Now it is on the way from one to another one.
	adds(t, b, "z", one(2), exclusive)
	stuck(t, b, one(0), one(1), one(2))
	is(t, b.Remove("y", one(1)), api.OK)
	stuck(t, b, one(0), one(2))
	is(t, b.Remove("z", one(2)), api.OK)
	stuck(t, b)
	b.Drop(one(1))
	stuck(t, b)
	// At once: its own entry is in the way of its own.
	adds(t, b, "w/w", one(9), exclusive)
	adds(t, b, "w", one(9), shared)
	stuck(t, b, one(9))
	adds(t, b, "w", one(8), shared)
	stuck(t, b, one(9))
}

// P17.5: between two rings, and beside them.
func TestStuckBetween(t *testing.T) {
	b := lock.New(0)
	ring := func(of ...uint64) {
		for n, num := range of {
			adds(t, b, fmt.Sprint("ring", of[0], "/", n), one(num), exclusive)
		}
		for n, num := range of {
			adds(t, b, fmt.Sprint("ring", of[0], "/", (n+1)%len(of)), one(num), exclusive)
		}
	}
	waits := func(num, other uint64) {
		p := fmt.Sprint("waits/", num, "-", other)
		adds(t, b, p, one(other), exclusive)
		adds(t, b, p, one(num), exclusive)
	}
	ring(11, 12, 13, 14)
	ring(21, 22, 23)
	waits(12, 5)
	waits(5, 6)
	waits(6, 22)
	waits(7, 13)
	waits(23, 8)
	waits(8, 9)
	waits(5, 9)
	stuck(t, b, one(11), one(12), one(13), one(14), one(21), one(22), one(23))
	waits(9, 6)
	stuck(t, b, one(6), one(8), one(9), one(11), one(12), one(13), one(14), one(21), one(22), one(23))
	waits(23, 14)
	stuck(t, b, one(5), one(6), one(8), one(9), one(11), one(12), one(13), one(14), one(21), one(22), one(23))
}

// P17.5: the order of sessions is that of their numbers, then that of the bytes of their feet.
func TestStuckOrder(t *testing.T) {
	all := []cmd.Session{session(0, ""), session(0, "b"), session(1, "A"), session(1, "a"), session(1, "a-b"), session(1, "a/b"), session(1, "\xff"), session(9, "a"), session(10, "a"), session(1<<63, "a"), session(math.MaxUint64, "")}
	for seed := range int64(20) {
		b := lock.New(0)
		for _, n := range rand.New(rand.NewSource(seed)).Perm(len(all)) {
			adds(t, b, "a/b", all[n], exclusive)
			adds(t, b, "a", all[n], exclusive)
		}
		stuck(t, b, all...)
	}
}

// record is an entry in bytes, written apart from the program.
type record struct {
	path  string
	num   uint64
	foot  string
	mode  byte
	n     uint64
	stamp uint64
}

// counter is one in bytes.
type counter struct {
	path string
	n    uint64
}

// addText puts a text behind bytes.
func addText(b []byte, s string) []byte {
	return append(binary.AppendUvarint(b, uint64(len(s))), s...)
}

// text is a record's bytes.
func (r record) text() []byte {
	b := addText(nil, r.path)
	b = binary.BigEndian.AppendUint64(b, r.num)
	b = addText(b, r.foot)
	b = append(b, r.mode)
	b = binary.BigEndian.AppendUint64(b, r.n)
	return binary.AppendUvarint(b, r.stamp)
}

// text is a counter's bytes.
func (c counter) text() []byte {
	return binary.BigEndian.AppendUint64(addText(nil, c.path), c.n)
}

// book is records' and counters' bytes.
func book(l []record, counters []counter) []byte {
	b := binary.AppendUvarint(nil, uint64(len(l)))
	for _, r := range l {
		b = append(b, r.text()...)
	}
	b = binary.AppendUvarint(b, uint64(len(counters)))
	for _, c := range counters {
		b = append(b, c.text()...)
	}
	return b
}

// P17.3: bytes, written out.
func TestPut(t *testing.T) {
	b := lock.New(300)
	adds(t, b, "a-", session(1, ""), exclusive)
	adds(t, b, "a/b", session(0x0102030405060708, "xy"), exclusive)
	adds(t, b, "a/b", session(2, "z"), shared)
	adds(t, b, "a", session(2, "z"), shared)
	adds(t, b, "c", session(2, "z"), shared)
	b.Remove("c", session(2, "z"))
	want := []byte{4}
	want = append(want, 1, 'a', 0, 0, 0, 0, 0, 0, 0, 2, 1, 'z', 1, 0, 0, 0, 0, 0, 0, 1, 45, 3)
	want = append(want, 3, 'a', '/', 'b', 1, 2, 3, 4, 5, 6, 7, 8, 2, 'x', 'y', 2, 0, 0, 0, 0, 0, 0, 1, 45, 1)
	want = append(want, 3, 'a', '/', 'b', 0, 0, 0, 0, 0, 0, 0, 2, 1, 'z', 1, 0, 0, 0, 0, 0, 0, 1, 46, 2)
	want = append(want, 2, 'a', '-', 0, 0, 0, 0, 0, 0, 0, 1, 0, 2, 0, 0, 0, 0, 0, 0, 1, 45, 1)
	want = append(want, 4)
	want = append(want, 1, 'a', 0, 0, 0, 0, 0, 0, 1, 45)
	want = append(want, 3, 'a', '/', 'b', 0, 0, 0, 0, 0, 0, 1, 46)
	want = append(want, 2, 'a', '-', 0, 0, 0, 0, 0, 0, 1, 45)
	want = append(want, 1, 'c', 0, 0, 0, 0, 0, 0, 1, 45)
	if got := written(b); !bytes.Equal(got, want) {
		t.Errorf("%x, not %x", got, want)
	}
	// Behind what was put already, and nothing is changed by it.
	o := new(wire.Out).Byte(77)
	b.Put(o)
	b.Put(o)
	if got := o.Bytes(); !bytes.Equal(got, slices.Concat([]byte{77}, want, want)) {
		t.Errorf("%x", got)
	}
	// A stamp of more than one byte.
	b = taken(t, book([]record{{path: "a", mode: 1, stamp: 299}}, nil), 0)
	b.Add("a/b", session(1, "x"), shared)
	want = book([]record{{path: "a", mode: 1, stamp: 299}, {path: "a/b", num: 1, foot: "x", mode: 1, n: 1, stamp: 300}}, []counter{{"a/b", 1}})
	if got := written(b); !bytes.Equal(got, want) {
		t.Errorf("%x, not %x", got, want)
	}
}

// P17.3: two books that tell the same have the same bytes, whatever led to them; all else tells in the bytes.
func TestPutJustIf(t *testing.T) {
	x, y := lock.New(3), lock.New(3)
	for _, b := range []*lock.Book{x, y} {
		adds(t, b, "a", one(1), exclusive)
	}
	adds(t, x, "b", one(1), shared)
	adds(t, x, "c/d", one(2), shared)
	adds(t, y, "c/d", one(2), shared)
	adds(t, y, "b", one(1), shared)
	if !bytes.Equal(written(x), written(y)) {
		t.Errorf("%x, %x", written(x), written(y))
	}
	seen := map[string]int{}
	for n, change := range []func(b *lock.Book){
		func(b *lock.Book) {},
		func(b *lock.Book) { b.Add("d", one(1), shared) },
		func(b *lock.Book) { b.Add("d", one(1), exclusive) },
		func(b *lock.Book) { b.Add("d", one(2), shared) },
		func(b *lock.Book) { b.Add("d", session(1, "b"), shared) },
		func(b *lock.Book) { b.Add("e", one(1), shared) },
		func(b *lock.Book) { b.Add("d", one(1), shared); b.Drop(one(1)) },
		func(b *lock.Book) { b.Remove("a", one(1)) },
		func(b *lock.Book) { b.Remove("b", one(1)) },
		func(b *lock.Book) { b.Drop(one(1)) },
		func(b *lock.Book) { b.Drop(one(2)) },
		func(b *lock.Book) { b.Add("a", one(2), shared); b.Add("a", one(3), shared) },
		func(b *lock.Book) { b.Add("a", one(3), shared); b.Add("a", one(2), shared) },
	} {
		b := taken(t, written(x), 3)
		change(b)
		if m, is := seen[string(written(b))]; is {
			t.Error(m, n)
		}
		seen[string(written(b))] = n
	}
}

// P17.3: a counter that rises to the first number is told like one that never was changed, and has no bytes.
func TestPutFirst(t *testing.T) {
	b := taken(t, book(nil, []counter{{"a", 6}, {"b", 8}}), 8-1)
	adds(t, b, "a", one(1), shared)
	e := record{path: "a", num: 1, foot: "a", mode: 1, n: 7, stamp: 1}
	if got, want := written(b), book([]record{e}, []counter{{"b", 8}}); !bytes.Equal(got, want) || b.Counter("a") != 7 {
		t.Errorf("%x, not %x", got, want)
	}
	adds(t, b, "a", one(2), shared)
	if b.Counter("a") != 8 {
		t.Error(b.Counter("a"))
	}
	taken(t, written(b), 7)
}

// some gives entries with all that there is.
func some() []record {
	return []record{
		{"a", 1, "a", 2, 1, 1},
		{"a", 2, "a", 1, 2, 2},
		{"a", 1, "b", 1, math.MaxUint64, lastStamp},
		{"a/b", 1, "a", 1, 0, 1},
		{"b", 0, "", 1, 1 << 40, 300},
		{long(), math.MaxUint64, strings.Repeat("!", longest), 2, 7, 7},
	}
}

// counts gives counters.
func counts() []counter {
	return []counter{{"a", 0}, {"a/b", math.MaxUint64}, {"a-b", 1}, {"b/c", lastCounter}, {long(), 6}}
}

// P17.6: what was put is taken again, and goes on like any other book.
func TestTake(t *testing.T) {
	all := book(some(), counts())
	b := taken(t, all, 5)
	if got := written(b); !bytes.Equal(got, all) {
		t.Errorf("%x, not %x", got, all)
	}
	var want []lock.Entry
	for _, r := range some() {
		e := lock.Entry{Path: r.path, Session: session(r.num, r.foot), Mode: int(r.mode), N: r.n, Stamp: int(r.stamp)}
		if got, ok := b.Find(e.Path, e.Session); got != e || !ok {
			t.Error(got, ok)
		}
		want = append(want, e)
	}
	lists(t, b.List(), want...)
	for _, c := range append(counts(), counter{"b", 5}, counter{"A", 5}, counter{"a/b/c", 5}) {
		if got := b.Counter(c.path); got != c.n {
			t.Error(c, got)
		}
	}
	granted(t, b, want[0], want[3], want[4], want[5])
	refuses(t, b, "a", session(1, "a"), shared, api.ErrTwice)
	refuses(t, b, "a/b", session(9, "a"), shared, api.ErrExhausted)
	refuses(t, b, "b/c", session(9, "a"), shared, api.ErrExhausted)
	if e := adds(t, b, "a/c", session(9, "a"), shared); e.N != 6 || e.Stamp != lastStamp+1 {
		t.Error(e)
	}
	if e := adds(t, b, "a-b", session(9, "a"), shared); e.N != 2 || e.Stamp != 1 {
		t.Error(e)
	}
	if b.Drop(session(1, "a")) != 2 || b.Granted(want[2]) != true {
		t.Error(b.List())
	}
	// A stamp that has risen past the last one is put as it is, and not taken again.
	fails(t, written(b), 5, api.ErrRange)
	if e := taken(t, []byte{0, 0}, 9); e.Counter("a") != 9 || len(e.List()) != 0 {
		t.Error(e.List())
	}
	// More entries than a session may add are taken; none is added to them.
	var many []record
	for n := range held + 5 {
		many = append(many, record{fmt.Sprintf("a/%03d", n), 1, "a", 1, 1, 1})
	}
	b = taken(t, book(many, nil), 0)
	refuses(t, b, "b", one(1), shared, api.ErrFull)
	if b.Drop(one(1)) != held+5 {
		t.Error("too few")
	}
}

// fails tells whether taking a book fails as it should, and gives one without entries, with the first number.
func fails(t *testing.T, b []byte, first uint64, want api.Errno) {
	t.Helper()
	in := wire.NewIn(b)
	x := lock.Take(in, first)
	if e := in.End(); e != want {
		t.Errorf("%x: %d, not %d", b, e, want)
	}
	if !in.Failed() || !bytes.Equal(written(x), []byte{0, 0}) || x.Counter("a") != first {
		t.Errorf("%x: %x", b, written(x))
	}
	if e, err := x.Add("a", one(1), shared); err != api.OK || e.N != first+1 {
		t.Errorf("%x: %d", b, err)
	}
}

// P17.6: a book that is cut anywhere is too short, and one with something behind it isn't touched there.
func TestTakeCut(t *testing.T) {
	all := book(some(), counts())
	second := len(book(some(), nil))
	for n := range all {
		want := api.ErrShort
		if n > 0 && n < len(some()) || n >= second && n < second+len(counts())-1 {
			// The count is above that of bytes.
			want = api.ErrRange
		}
		fails(t, all[:n], 5, want)
	}
	in := wire.NewIn(append(bytes.Clone(all), 1, 77, 78))
	if got := written(lock.Take(in, 5)); !bytes.Equal(got, all) || !in.Truth() || in.Left() != 2 || in.End() != api.ErrLong {
		t.Errorf("%x", got)
	}
}

// P17.6: each count is at most that of the bytes that are left; its own errors are named first.
func TestTakeCount(t *testing.T) {
	greatest := bytes.Repeat([]byte{255}, 9)
	for _, c := range []struct {
		head []byte
		rest int
		want api.Errno
	}{
		{nil, 0, api.ErrShort},
		{[]byte{1}, 0, api.ErrShort},
		{[]byte{2}, 0, api.ErrRange},
		{[]byte{2}, 1, api.ErrShort},
		{[]byte{3}, 1, api.ErrRange},
		{[]byte{100}, 99, api.ErrShort},
		{[]byte{101}, 99, api.ErrRange},
		{[]byte{0x80}, 0, api.ErrShort},
		{[]byte{0x80, 0}, 50, api.ErrForm},
		{[]byte{0x81, 0}, 50, api.ErrForm},
		{[]byte{0x80, 1}, 125, api.ErrRange},
		{append(bytes.Clone(greatest), 1), 50, api.ErrRange},
		{append(bytes.Clone(greatest), 2), 50, api.ErrRange},
		{append(bytes.Clone(greatest[:8]), 127), 50, api.ErrRange},
	} {
		// What is left has few things, which aren't right: but they are too few, which is named first.
		fails(t, append(c.head, make([]byte, c.rest)...), 5, c.want)
		fails(t, slices.Concat([]byte{0}, c.head, make([]byte, c.rest)), 5, c.want)
		entries := book(some(), nil)
		fails(t, slices.Concat(entries[:len(entries)-1], c.head, make([]byte, c.rest)), 5, c.want)
	}
}

// number is a short number behind some bytes.
func number(b []byte, v uint64) []byte {
	return binary.AppendUvarint(bytes.Clone(b), v)
}

// P17.6: the error of each part, at each entry and counter.
func TestTakeParts(t *testing.T) {
	tail := make([]byte, 100)
	for _, at := range []int{0, 1, 5} {
		r := some()[at]
		head := book(some()[:at], nil)
		head = head[:len(head)-1]
		head[0] = 6
		named := addText(bytes.Clone(head), r.path)
		numbered := append(bytes.Clone(named), make([]byte, 8)...)
		footed := append(addText(bytes.Clone(numbered), r.foot), make([]byte, 9)...)
		for _, b := range [][]byte{
			number(head, longest+1),
			number(head, math.MaxUint64),
			number(numbered, longest+1),
			number(numbered, math.MaxUint64),
			number(footed, lastStamp+1),
			number(footed, math.MaxUint64),
		} {
			fails(t, append(b, tail...), 5, api.ErrRange)
		}
		fails(t, append(append(footed, 0x80, 0), tail...), 5, api.ErrForm)
	}
	for _, at := range []int{0, 2, 4} {
		head := book(some(), counts()[:at])
		head[len(book(some(), nil))-1] = 5
		fails(t, append(number(head, longest+1), tail...), 5, api.ErrRange)
		fails(t, append(number(head, math.MaxUint64), tail...), 5, api.ErrRange)
		fails(t, append(head, 1, 'z', 0, 0, 0, 0, 0, 0, 0), 5, api.ErrShort)
	}
}

// wrongEntries gives rows of entries that no book has.
func wrongEntries() [][]record {
	a := record{path: "a", mode: 1, stamp: 1}
	with := func(change func(r *record)) record {
		r := a
		change(&r)
		return r
	}
	l := [][]record{
		{with(func(r *record) { r.stamp = 0 })},
		{a, a},
		{a, with(func(r *record) { r.stamp = 2 })},
		{a, with(func(r *record) { r.num = 1 })},
		{with(func(r *record) { r.stamp = 2 }), with(func(r *record) { r.num = 1 })},
		{with(func(r *record) { r.path = "b" }), a},
		{with(func(r *record) { r.path = "a/b" }), a},
		{with(func(r *record) { r.path = "a-" }), with(func(r *record) { r.path = "a/b" })},
		{a, with(func(r *record) { r.num, r.stamp = 1, 2 }), with(func(r *record) { r.stamp = 3 })},
		{a, with(func(r *record) { r.num, r.stamp = 1, 3 }), with(func(r *record) { r.num, r.stamp = 2, 2 })},
		{with(func(r *record) { r.num, r.stamp = 1, 3 }), a, with(func(r *record) { r.num, r.stamp = 2, 4 })},
	}
	for _, mode := range []byte{0, 3, 4, 128, 255} {
		l = append(l, []record{with(func(r *record) { r.mode = mode })})
	}
	for _, p := range wrongPaths() {
		if len(p) <= longest {
			l = append(l, []record{with(func(r *record) { r.path = p })})
		}
	}
	return l
}

// wrongCounters gives rows of counters that no book has, if its first number is 5.
func wrongCounters() [][]counter {
	l := [][]counter{
		{{"a", 5}},
		{{"a", 1}, {"a", 1}},
		{{"a", 1}, {"a", 2}},
		{{"b", 1}, {"a", 1}},
		{{"a/b", 1}, {"a", 1}},
		{{"a-", 1}, {"a/b", 1}},
		{{"a", 1}, {"b", 5}},
		{{"a", 1}, {"c", 1}, {"b", 1}},
		{{"c", 1}, {"a", 1}, {"d", 1}},
	}
	for _, p := range wrongPaths() {
		if len(p) <= longest {
			l = append(l, []counter{{p, 1}})
		}
	}
	return l
}

// P17.6: entries that aren't right, twice there, or not in their order.
func TestTakeEntries(t *testing.T) {
	ahead, behind := record{path: "0", mode: 2, stamp: 7}, record{path: "zz", num: 1, mode: 2, stamp: 7}
	for _, l := range wrongEntries() {
		for _, x := range [][]record{l, append(slices.Clone(l), behind), append([]record{ahead}, l...), append(append([]record{ahead}, l...), behind)} {
			fails(t, book(x, nil), 5, api.ErrForm)
			fails(t, book(x, counts()), 5, api.ErrForm)
			fails(t, append(book(x, nil), 1, 2), 5, api.ErrForm)
			// The parts' errors are named first, however far behind they stand.
			whole := book(append(slices.Clone(x), some()[5]), counts())
			for n := len(book(x, nil)); n < len(whole); n++ {
				in := wire.NewIn(whole[:n])
				lock.Take(in, 5)
				if e := in.End(); e != api.ErrShort && e != api.ErrRange {
					t.Fatalf("%x: %d", whole[:n], e)
				}
			}
			fails(t, book(append(slices.Clone(x), record{path: long() + "x"}), nil), 5, api.ErrRange)
			fails(t, book(append(slices.Clone(x), record{foot: long() + "x"}), nil), 5, api.ErrRange)
			fails(t, book(append(slices.Clone(x), record{stamp: lastStamp + 1}), nil), 5, api.ErrRange)
			fails(t, book(x, []counter{{"b", 1}, {long() + "x", 1}}), 5, api.ErrRange)
		}
	}
}

// P17.6: counters that aren't right, or not in their order.
func TestTakeCounters(t *testing.T) {
	for _, l := range wrongCounters() {
		for _, x := range [][]counter{l, append(slices.Clone(l), counter{"zz", 9}), append([]counter{{"0", 9}}, l...)} {
			fails(t, book(nil, x), 5, api.ErrForm)
			fails(t, book(some(), x), 5, api.ErrForm)
			fails(t, append(book(some(), x), 1, 2), 5, api.ErrForm)
			whole := book(nil, append(slices.Clone(x), counter{"zzz", 9}))
			for n := len(book(nil, x)); n < len(whole); n++ {
				fails(t, whole[:n], 5, api.ErrShort)
			}
			fails(t, book(nil, append(slices.Clone(x), counter{long() + "x", 9})), 5, api.ErrRange)
		}
	}
	// The first number alone isn't taken, whichever it is.
	for _, first := range []uint64{0, 1, 6, lastCounter - 1} {
		fails(t, book(nil, []counter{{"a", first}}), first, api.ErrForm)
		for _, n := range []uint64{first + 1, first - 1, lastCounter, math.MaxUint64 - 1} {
			if b := taken(t, book(nil, []counter{{"a", n}}), first); b.Counter("a") != n {
				t.Error(first, n)
			}
		}
	}
}

// P17.6: an input that has failed gives a book without entries, and keeps its error.
func TestTakeFailed(t *testing.T) {
	for _, e := range []api.Errno{api.ErrTorn, api.ErrForm, -1, math.MaxInt} {
		in := wire.NewIn(book(some(), counts()))
		in.Fail(e)
		b := lock.Take(in, 5)
		if in.End() != e || len(b.List()) != 0 || b.Counter("a") != 5 {
			t.Error(e, in.End())
		}
		adds(t, b, "a", session(1, "a"), shared)
	}
}

// model is a book, as the chapter's words tell it: entries in the order of their coming.
type model struct {
	first    uint64
	entries  []lock.Entry
	counters map[string]uint64
}

// overlap tells whether one of two paths lies above the other.
func overlap(p, q string) bool {
	return strings.HasPrefix(p+"/", q+"/") || strings.HasPrefix(q+"/", p+"/")
}

// way tells whether two entries are in each other's way.
func way(x, y lock.Entry) bool {
	return overlap(x.Path, y.Path) && (x.Mode == exclusive || y.Mode == exclusive)
}

// order is that of paths.
func order(p, q string) int {
	return slices.Compare(strings.Split(p, "/"), strings.Split(q, "/"))
}

// counter is a path's counter.
func (m *model) counter(p string) uint64 {
	if n, ok := m.counters[p]; ok {
		return n
	}
	return m.first
}

// find is where an entry stands, or -1.
func (m *model) find(p string, s cmd.Session) int {
	return slices.IndexFunc(m.entries, func(e lock.Entry) bool { return e.Path == p && e.Session == s })
}

// add makes an entry.
func (m *model) add(p string, s cmd.Session, mode int) (lock.Entry, api.Errno) {
	n := 0
	e := lock.Entry{Path: p, Session: s, Mode: mode, Stamp: 1}
	for _, x := range m.entries {
		if x.Session == s {
			n++
		}
		if overlap(x.Path, p) {
			e.Stamp = max(e.Stamp, x.Stamp+1)
		}
	}
	switch {
	case slices.Contains(wrongPaths(), p) || mode != shared && mode != exclusive:
		return lock.Entry{}, api.ErrForm
	case m.find(p, s) >= 0:
		return lock.Entry{}, api.ErrTwice
	case n >= held:
		return lock.Entry{}, api.ErrFull
	case m.counter(p) >= lastCounter:
		return lock.Entry{}, api.ErrExhausted
	}
	e.N = m.counter(p) + 1
	m.counters[p] = e.N
	m.entries = append(m.entries, e)
	return e, api.OK
}

// drop takes those entries away of which something holds.
func (m *model) drop(holds func(e lock.Entry) bool) int {
	was := len(m.entries)
	m.entries = slices.DeleteFunc(m.entries, holds)
	return was - len(m.entries)
}

// ahead are those that came earlier than the one at a place, and are in its way, in their order.
func (m *model) ahead(at int) []lock.Entry {
	var l []lock.Entry
	for _, e := range m.entries[:at] {
		if way(e, m.entries[at]) {
			l = append(l, e)
		}
	}
	slices.SortStableFunc(l, func(x, y lock.Entry) int { return order(x.Path, y.Path) })
	return l
}

// list are all entries, in their order: those of a path by their coming.
func (m *model) list() []lock.Entry {
	l := slices.Clone(m.entries)
	slices.SortStableFunc(l, func(x, y lock.Entry) int { return order(x.Path, y.Path) })
	return l
}

// stuck are the sessions that wait for themselves.
func (m *model) stuck() []cmd.Session {
	type pair [2]cmd.Session
	waits := map[pair]bool{}
	var all []cmd.Session
	for at, e := range m.entries {
		if !slices.Contains(all, e.Session) {
			all = append(all, e.Session)
		}
		for _, x := range m.ahead(at) {
			waits[pair{e.Session, x.Session}] = true
		}
	}
	for _, by := range all {
		for _, s := range all {
			for _, u := range all {
				if waits[pair{s, by}] && waits[pair{by, u}] {
					waits[pair{s, u}] = true
				}
			}
		}
	}
	all = slices.DeleteFunc(all, func(s cmd.Session) bool { return !waits[pair{s, s}] })
	slices.SortFunc(all, func(x, y cmd.Session) int {
		if x.Num < y.Num || x.Num == y.Num && x.Foot < y.Foot {
			return -1
		}
		return 1
	})
	return all
}

// bytes are the model's bytes.
func (m *model) bytes() []byte {
	var l []record
	for _, e := range m.list() {
		l = append(l, record{e.Path, e.Session.Num, e.Session.Foot, byte(e.Mode), e.N, uint64(e.Stamp)})
	}
	var c []counter
	for p, n := range m.counters {
		c = append(c, counter{p, n})
	}
	slices.SortFunc(c, func(x, y counter) int { return order(x.path, y.path) })
	return book(l, c)
}

// same tells whether a book tells all that the model does.
func (m *model) same(t *testing.T, b *lock.Book, paths []string) {
	t.Helper()
	lists(t, b.List(), m.list()...)
	stuck(t, b, m.stuck()...)
	for at, e := range m.entries {
		ahead := m.ahead(at)
		lists(t, b.Ahead(e), ahead...)
		if b.Granted(e) != (len(ahead) == 0) || b.Check(e.Path, e.N) != (len(ahead) == 0) {
			t.Error(e, ahead)
		}
		if got, ok := b.Find(e.Path, e.Session); got != e || !ok {
			t.Error(e, got)
		}
	}
	for _, p := range paths {
		if b.Counter(p) != m.counter(p) || b.Check(p, m.counter(p)+1) {
			t.Error(p, b.Counter(p), m.counter(p))
		}
		for _, mode := range []int{shared, exclusive} {
			in := func(e lock.Entry) bool { return way(e, lock.Entry{Path: p, Mode: mode}) }
			if b.Could(p, mode) == slices.ContainsFunc(m.entries, in) {
				t.Error(p, mode)
			}
		}
	}
	if got, want := written(b), m.bytes(); !bytes.Equal(got, want) {
		t.Fatalf("%x, not %x", got, want)
	}
}

// holds tells whether what P17.4 says of what is granted is so, and of what comes of one path.
func holds(t *testing.T, b *lock.Book, was []lock.Entry) []lock.Entry {
	t.Helper()
	var now []lock.Entry
	all := b.List()
	for n, e := range all {
		if b.Granted(e) {
			now = append(now, e)
		}
		if n > 0 && all[n-1].Path == e.Path && (all[n-1].N >= e.N || all[n-1].Stamp >= e.Stamp) {
			t.Error(all[n-1], e)
		}
	}
	for n, e := range now {
		for _, x := range now[:n] {
			if way(e, x) {
				t.Error("in each other's way", e, x)
			}
		}
	}
	for _, e := range was {
		if slices.Contains(all, e) && !slices.Contains(now, e) {
			t.Error("granted no more", e)
		}
	}
	return now
}

// P17.1 to P17.6: anything done in any order, against the chapter's words; at times what was put goes on.
func TestModel(t *testing.T) {
	pool := []string{"a", "a/b", "a/b/c", "a/b/d", "a/c", "ab", "a-b", "b", "b/a", "b/a/a/a/a/a/a/a", "c"}
	for seed := range int64(60) {
		r := rand.New(rand.NewSource(seed))
		paths := pool[:2+r.Intn(len(pool)-1)]
		var sessions []cmd.Session
		for range 1 + r.Intn(12) {
			sessions = append(sessions, session(uint64(r.Intn(5)), []string{"a", "a/b", "", "\xff"}[r.Intn(4)]))
		}
		first := []uint64{0, 5, lastCounter - 9}[r.Intn(3)]
		b, m := lock.New(first), &model{first: first, counters: map[string]uint64{}}
		var was []lock.Entry
		for step := range 250 {
			p, s := paths[r.Intn(len(paths))], sessions[r.Intn(len(sessions))]
			if r.Intn(30) == 0 {
				p = wrongPaths()[r.Intn(len(wrongPaths()))]
			}
			mode := 1 + r.Intn(2)
			if r.Intn(30) == 0 {
				mode = wrongModes()[r.Intn(len(wrongModes()))]
			}
			switch r.Intn(10) {
			case 0, 1, 2, 3, 4:
				may := b.May(p, s, mode)
				got, e := b.Add(p, s, mode)
				want, err := m.add(p, s, mode)
				if got != want || e != err || may != err {
					t.Error(got, e, may, want, err)
				}
			case 5, 6, 7:
				want := api.ErrLock
				if m.drop(func(e lock.Entry) bool { return e.Path == p && e.Session == s }) > 0 {
					want = api.OK
				}
				is(t, b.Remove(p, s), want)
			case 8:
				if got, want := b.Drop(s), m.drop(func(e lock.Entry) bool { return e.Session == s }); got != want {
					t.Error(got, want)
				}
			case 9:
				b = taken(t, written(b), first)
			}
			was = holds(t, b, was)
			if step%10 == 0 {
				m.same(t, b, paths)
			}
		}
		m.same(t, b, paths)
	}
}

// over is a text whose bytes are some others'.
func over(b []byte) string {
	return unsafe.String(unsafe.SliceData(b), len(b))
}

// P1, and the rules: what is handed in isn't kept, even where the path was known.
func TestHandedIn(t *testing.T) {
	foot, where := []byte("ab"), []byte("x/y")
	b := lock.New(0)
	for range 3 {
		copy(foot, "ab")
		copy(where, "x/y")
		s, p := session(1, over(foot)), over(where)
		adds(t, b, p, s, exclusive)
		copy(foot, "zz")
		copy(where, "q/q")
		n := b.Counter("x/y")
		e := lock.Entry{Path: "x/y", Session: session(1, "ab"), Mode: exclusive, N: n, Stamp: 1}
		lists(t, b.List(), e)
		granted(t, b, e)
		if got, ok := b.Find("x/y", session(1, "ab")); got != e || !ok || b.Counter("q/q") != 0 {
			t.Error(got, ok)
		}
		is(t, b.Remove("x/y", session(1, "ab")), api.OK)
	}
	if b.Counter("x/y") != 3 {
		t.Error(b.Counter("x/y"))
	}
	// The bytes of an input may be used for something else behind the taking.
	all := book(some(), counts())
	c := taken(t, all, 5)
	was := written(c)
	clear(all)
	if !bytes.Equal(written(c), was) {
		t.Error("bytes are kept")
	}
}

// spoil changes a text's bytes, and tells of one that was told already.
func spoil(t *testing.T, seen map[*byte]bool, s string) {
	t.Helper()
	at := unsafe.StringData(s)
	if seen[at] {
		t.Error("a text is told twice")
	}
	seen[at] = true
	copy(unsafe.Slice(at, len(s)), "SPOILT")
}

// P1, and the rules: what is told is new memory, its texts and its spare room, too.
func TestToldMemory(t *testing.T) {
	seen := map[*byte]bool{}
	b := lock.New(0)
	for n := range uint64(5) {
		// Texts of their own, which may be spoilt.
		s, p := session(n, strings.Clone("some/foot")), strings.Clone("some/path")
		e := adds(t, b, p, s, exclusive)
		adds(t, b, "some", s, exclusive)
		for _, x := range []string{p, s.Foot, e.Path, e.Session.Foot} {
			spoil(t, seen, x)
		}
	}
	was := written(b)
	last := lock.Entry{Path: "some/path", Mode: exclusive, Stamp: 99}
	for range 3 {
		for _, l := range [][]lock.Entry{b.List(), b.Ahead(last)} {
			if len(l) != 10 {
				t.Fatal(l)
			}
			for _, e := range l {
				spoil(t, seen, e.Path)
				spoil(t, seen, e.Session.Foot)
			}
			clear(l[:cap(l)])
		}
		e, _ := b.Find("some/path", session(3, "some/foot"))
		spoil(t, seen, e.Path)
		spoil(t, seen, e.Session.Foot)
		l := b.Stuck()
		if len(l) != 5 {
			t.Fatal(l)
		}
		for _, s := range l {
			spoil(t, seen, s.Foot)
		}
		clear(l[:cap(l)])
		if !bytes.Equal(written(b), was) {
			t.Fatal("what is told is kept")
		}
	}
}

// P1: no numbers and no texts make a call panic.
func TestAny(t *testing.T) {
	nums := []uint64{0, 1, lastCounter, math.MaxUint64}
	texts := append(wrongPaths(), "a", "a/b", long())
	ints := append(wrongModes(), 1, 2)
	for _, first := range nums {
		b := lock.New(first)
		for _, num := range nums {
			for _, text := range texts {
				s := session(num, text)
				for _, x := range ints {
					for _, p := range texts {
						b.May(p, s, x)
						b.Add(p, s, x)
						b.Could(p, x)
						b.Granted(lock.Entry{Path: p, Session: s, Mode: x, N: num, Stamp: x})
					}
					b.Ahead(lock.Entry{Path: text, Session: s, Mode: x, N: num, Stamp: x})
				}
				b.Check(text, num)
				b.Counter(text)
				b.Find(text, s)
				b.Remove(text, s)
			}
		}
		for _, e := range b.List() {
			if got, ok := b.Find(e.Path, e.Session); got != e || !ok {
				t.Error(e)
			}
		}
		b.Stuck()
		if first == 0 {
			// A foot that is too long for a path is put as it is, and not taken again.
			fails(t, written(b), first, api.ErrRange)
		}
		for _, num := range nums {
			for _, text := range texts {
				b.Drop(session(num, text))
			}
		}
		lists(t, b.List())
	}
}

// P1: many entries are no trouble, nor a long way from a session to itself.
func TestMany(t *testing.T) {
	const many = 1500
	b := lock.New(0)
	for n := range uint64(many) {
		adds(t, b, fmt.Sprint("a/", n), one(n), exclusive)
		adds(t, b, fmt.Sprint("b/", n%10), one(n), shared)
	}
	for n := range uint64(many - 1) {
		adds(t, b, fmt.Sprint("a/", n), one(n+1), exclusive)
	}
	stuck(t, b)
	adds(t, b, fmt.Sprint("a/", many-1), one(0), exclusive)
	if got := b.Stuck(); len(got) != many || got[many-1] != one(many-1) {
		t.Error(len(got))
	}
	if got := taken(t, written(b), 0); !bytes.Equal(written(got), written(b)) {
		t.Error("it isn't the same")
	}
}

// P1, P17.3, P17.6: any bytes are taken, or refused; what was taken is put as it was.
func FuzzTake(f *testing.F) {
	f.Add([]byte{0, 0}, uint64(0))
	f.Add([]byte{1}, uint64(1))
	f.Add(book(some(), counts()), uint64(5))
	for _, l := range wrongEntries() {
		f.Add(book(l, counts()), uint64(5))
	}
	for _, l := range wrongCounters() {
		f.Add(book(some()[:1], l), uint64(5))
	}
	f.Fuzz(func(t *testing.T, b []byte, first uint64) {
		in := wire.NewIn(b)
		x := lock.Take(in, first)
		if in.Failed() {
			if got := written(x); !bytes.Equal(got, []byte{0, 0}) || x.Counter("a") != first {
				t.Error(got)
			}
			return
		}
		if got := written(x); !bytes.Equal(got, b[:len(b)-in.Left()]) {
			t.Errorf("%x, not %x", got, b)
		}
		for _, e := range x.List() {
			if got, ok := x.Find(e.Path, e.Session); got != e || !ok || x.Granted(e) != (len(x.Ahead(e)) == 0) {
				t.Error(e, got)
			}
		}
		x.Stuck()
	})
}
