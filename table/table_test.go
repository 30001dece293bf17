package table_test

import (
	"bytes"
	"fmt"
	"maps"
	"math"
	"slices"
	"strings"
	"testing"
	"unsafe"

	"moothill/api"
	"moothill/clash"
	"moothill/cmd"
	"moothill/lease"
	"moothill/lock"
	"moothill/table"
	"moothill/wire"
)

const (
	served      = 256
	held        = 64
	sessions    = 32
	lastCounter = 1<<63 - 1
	lastTime    = 1 << 40
	lastTtl     = 1 << 20
	shared      = cmd.Shared
	exclusive   = cmd.Exclusive
)

// session gives a session.
func session(num uint64, foot string) cmd.Session {
	return cmd.Session{Num: num, Foot: foot}
}

// one gives the session of a number, all with one foot.
func one(num uint64) cmd.Session {
	return session(num, "a")
}

// open, and what follows, give commands, each by what its kind has.
func open(s cmd.Session, request uint64, ttl uint64, time int) cmd.Cmd {
	return cmd.Cmd{Kind: cmd.Open, Session: s, Request: request, N: ttl, Time: time}
}

func end(s cmd.Session, request uint64) cmd.Cmd {
	return cmd.Cmd{Kind: cmd.Close, Session: s, Request: request}
}

func keep(s cmd.Session, request uint64, time int) cmd.Cmd {
	return cmd.Cmd{Kind: cmd.Keep, Session: s, Request: request, Time: time}
}

func acquire(s cmd.Session, request uint64, p string, mode int) cmd.Cmd {
	return cmd.Cmd{Kind: cmd.Acquire, Session: s, Request: request, Path: p, Mode: mode}
}

func try(s cmd.Session, request uint64, p string, mode int) cmd.Cmd {
	return cmd.Cmd{Kind: cmd.Try, Session: s, Request: request, Path: p, Mode: mode}
}

func release(s cmd.Session, request uint64, p string) cmd.Cmd {
	return cmd.Cmd{Kind: cmd.Release, Session: s, Request: request, Path: p}
}

func check(s cmd.Session, request uint64, p string, n uint64) cmd.Cmd {
	return cmd.Cmd{Kind: cmd.Check, Session: s, Request: request, Path: p, N: n}
}

func expire(s cmd.Session, time int) cmd.Cmd {
	return cmd.Cmd{Kind: cmd.Expire, Session: s, Time: time}
}

// refusal is the answer with an error.
func refusal(e api.Errno) lease.Answer {
	return lease.Answer{E: e}
}

// fine is the answer of what went well, and has no number.
func fine() lease.Answer {
	return lease.Answer{}
}

// granted, and waiting, are the answers of what has a number.
func granted(n uint64) lease.Answer {
	return lease.Answer{N: n, Granted: true}
}

func waiting(n uint64) lease.Answer {
	return lease.Answer{N: n}
}

// player plays commands on a table, each with a request of its own.
type player struct {
	*testing.T
	*table.Table
	last map[cmd.Session]uint64
}

// play begins with a table.
func play(t *testing.T, x *table.Table) player {
	return player{T: t, Table: x, last: map[cmd.Session]uint64{}}
}

// next is the next request of a session.
func (p player) next(s cmd.Session) uint64 {
	p.last[s]++
	return p.last[s]
}

// does applies a command as a request that wasn't there yet (an Expire as it is), which must have an answer, now and again.
func (p player) does(c cmd.Cmd, want lease.Answer) {
	p.Helper()
	if c.Kind != cmd.Expire {
		c.Request = p.next(c.Session)
	}
	if !c.Right() {
		p.Fatalf("%+v isn't right", c)
	}
	if got := p.Apply(c); got != want {
		p.Fatalf("%+v: %+v, not %+v", c, got, want)
	}
	if c.Kind == cmd.Expire {
		return
	}
	if got, ok := p.Sessions().Told(c.Session, c.Request); !ok || got != want {
		p.Fatalf("%+v: told %+v %t, not %+v", c, got, ok, want)
	}
	p.same(c, want)
}

// same applies a command that must have an answer, and change nothing.
func (p player) same(c cmd.Cmd, want lease.Answer) {
	p.Helper()
	was := p.Bytes()
	if got := p.Apply(c); got != want {
		p.Fatalf("%+v: %+v, not %+v", c, got, want)
	}
	if !bytes.Equal(p.Bytes(), was) {
		p.Fatalf("%+v changes the table", c)
	}
}

// opens opens sessions, which last long.
func (p player) opens(l ...cmd.Session) {
	p.Helper()
	for _, s := range l {
		p.does(open(s, 0, 1000, 0), fine())
	}
}

// knows tells whether this is known of a session, but how many answers were told.
func (p player) knows(s cmd.Session, want lease.Info) {
	p.Helper()
	got := p.Sessions().Info(s)
	got.Served = 0
	if got != want {
		p.Errorf("%v: %+v, not %+v", s, got, want)
	}
}

// has tells whether these entries are there, as paths and sessions' numbers, in their order.
func (p player) has(want ...string) {
	p.Helper()
	if got := names(p.Locks().List()); !slices.Equal(got, want) {
		p.Errorf("%v, not %v", got, want)
	}
}

// names are entries' paths, with their sessions' numbers.
func names(l []lock.Entry) []string {
	var told []string
	for _, e := range l {
		told = append(told, fmt.Sprint(e.Path, " ", e.Session.Num))
	}
	return told
}

// wrongs has commands that aren't right: of each kind such with a part that is wrong, or too much.
func wrongs() []cmd.Cmd {
	s := one(1)
	l := []cmd.Cmd{{Kind: -1}, {Kind: 9}, {Kind: math.MinInt}, {Kind: math.MaxInt}, {Request: 1}, {Session: s}, {Path: "a"}}
	for _, c := range []cmd.Cmd{open(s, 9, 5, 1), end(s, 9), keep(s, 9, 7), acquire(s, 9, "a/b", exclusive), try(s, 9, "a/b", shared), release(s, 9, "a/b"), check(s, 9, "a/b", 1), expire(s, 1<<30)} {
		for _, f := range []func(*cmd.Cmd){
			func(c *cmd.Cmd) { c.Kind += 9 },
			func(c *cmd.Cmd) { c.Session.Foot = "" },
			func(c *cmd.Cmd) { c.Session.Foot = "a/" },
			func(c *cmd.Cmd) { c.Request = 0 },
			func(c *cmd.Cmd) { c.Request = 7 },
			func(c *cmd.Cmd) { c.Path = "" },
			func(c *cmd.Cmd) { c.Path = "a" },
			func(c *cmd.Cmd) { c.Path = "/a" },
			func(c *cmd.Cmd) { c.Mode = 0 },
			func(c *cmd.Cmd) { c.Mode = 1 },
			func(c *cmd.Cmd) { c.Mode = 3 },
			func(c *cmd.Cmd) { c.N = 0 },
			func(c *cmd.Cmd) { c.N = 1 },
			func(c *cmd.Cmd) { c.N = lastTtl + 1 },
			func(c *cmd.Cmd) { c.N = math.MaxUint64 },
			func(c *cmd.Cmd) { c.Time = -1 },
			func(c *cmd.Cmd) { c.Time = 1 },
			func(c *cmd.Cmd) { c.Time = math.MaxInt },
		} {
			d := c
			if f(&d); !d.Right() {
				l = append(l, d)
			}
		}
	}
	return l
}

// P18.1: the chapter's example.
func TestExample(t *testing.T) {
	s := one(1)
	x := table.New(0)
	c := acquire(s, 2, "a/b", exclusive)
	for n, y := range []struct {
		c    cmd.Cmd
		want lease.Answer
	}{{open(s, 1, 5, 3), fine()}, {c, granted(1)}, {c, granted(1)}} {
		if got := x.Apply(y.c); got != y.want {
			t.Error(n, got)
		}
	}
	want := []lock.Entry{{Path: "a/b", Session: s, Mode: exclusive, N: 1, Stamp: 1}}
	if l := x.Locks().List(); !slices.Equal(l, want) {
		t.Error(l)
	}
}

// P18.1: nothing is there; first is the locks' first number; and no two tables have anything together.
func TestNew(t *testing.T) {
	for _, first := range []uint64{0, 1, 7, lastCounter - 1, lastCounter, 1 << 63, math.MaxUint64} {
		x, other := table.New(first), table.New(first)
		play(t, other).opens(one(1))
		play(t, other).does(acquire(one(1), 0, "a", exclusive), fine())
		if x.Sessions() != x.Sessions() || x.Locks() != x.Locks() {
			t.Error("others each time")
		}
		if l := x.Sessions().Sessions(); len(l) != 0 {
			t.Error(l)
		}
		if l := x.Locks().List(); len(l) != 0 || x.Locks().Counter("a") != first {
			t.Error(l)
		}
		if b := x.Bytes(); !bytes.Equal(b, []byte{0, 0, 0}) {
			t.Error(b)
		}
		if len(x.Holders("a")) != 0 || len(x.Waiters("a")) != 0 || len(x.Held(one(1))) != 0 || len(x.Reach()) != 0 {
			t.Error("something is there")
		}
	}
}

// P18.1: a Noop, and what isn't right, do nothing, and have an empty answer.
func TestNothing(t *testing.T) {
	p := play(t, table.New(0))
	p.same(cmd.Cmd{}, fine())
	for _, c := range wrongs() {
		p.same(c, fine())
	}
	p.opens(one(1), one(2))
	p.does(acquire(one(1), 0, "a/b", exclusive), granted(1))
	p.does(acquire(one(2), 0, "a/b", exclusive), waiting(2))
	p.same(cmd.Cmd{}, fine())
	for _, c := range wrongs() {
		p.same(c, fine())
	}
}

// P18.1: Open is layer 16's, with N and Time.
func TestOpen(t *testing.T) {
	p := play(t, table.New(0))
	for _, x := range []struct {
		num  uint64
		ttl  uint64
		time int
	}{{0, 5, 3}, {1, 1, 0}, {2, lastTtl, lastTime}, {math.MaxUint64, 1, lastTime}} {
		p.does(open(one(x.num), 0, x.ttl, x.time), fine())
		p.knows(one(x.num), lease.Info{Open: true, Deadline: x.time + int(x.ttl), Ttl: int(x.ttl)})
		p.does(open(one(x.num), 0, 7, 7), refusal(api.ErrTwice))
		p.knows(one(x.num), lease.Info{Open: true, Deadline: x.time + int(x.ttl), Ttl: int(x.ttl)})
		p.does(end(one(x.num), 0), fine())
		p.does(open(one(x.num), 0, 7, 7), refusal(api.ErrSession))
		p.knows(one(x.num), lease.Info{Dead: true})
	}
}

// P18.1, P18.3: an Open that finds no room among the sessions of its Foot is answered so ever after, as that was told.
func TestOpenFull(t *testing.T) {
	p := play(t, table.New(0))
	for n := range uint64(sessions) {
		p.opens(one(n))
	}
	p.opens(session(99, "a/b"), session(99, "b"))
	c := open(one(99), 1, 5, 5)
	p.does(c, refusal(api.ErrFull))
	p.knows(one(99), lease.Info{})
	p.does(end(one(7), 0), fine())
	p.same(c, refusal(api.ErrFull))
	p.does(c, fine())
	p.knows(one(99), lease.Info{Open: true, Deadline: 10, Ttl: 5})
}

// P18.1: Close is layer 16's End, behind which all locks of this session are gone, and of this one alone.
func TestClose(t *testing.T) {
	p := play(t, table.New(0))
	x, y, other := one(1), one(2), session(1, "a/b")
	p.does(end(x, 0), refusal(api.ErrSession))
	p.knows(x, lease.Info{})
	p.opens(x, y, other)
	p.does(acquire(x, 0, "a/b", exclusive), granted(1))
	p.does(acquire(x, 0, "a/c", exclusive), granted(1))
	p.does(acquire(y, 0, "a/b", exclusive), waiting(2))
	p.does(acquire(other, 0, "a/b/c", shared), waiting(1))
	p.does(acquire(x, 0, "a/b/d", shared), waiting(1))
	p.does(end(x, 0), fine())
	p.knows(x, lease.Info{Dead: true})
	p.has("a/b 2", "a/b/c 1")
	p.does(check(y, 0, "a/b", 2), fine())
	p.does(end(x, 0), refusal(api.ErrSession))
	p.has("a/b 2", "a/b/c 1")
	if n := p.Locks().Counter("a/c"); n != 1 {
		t.Error(n)
	}
}

// P18.1: what isn't open drops nothing, though a table's bytes gave it locks.
func TestCloseOfNone(t *testing.T) {
	x, y := one(1), one(2)
	locks := lock.New(0)
	locks.Add("a/b", x, exclusive)
	locks.Add("a/c", y, exclusive)
	books := lease.New()
	books.Open(y, 5, 5)
	p := play(t, loaded(t, 0, books, locks))
	p.does(end(x, 0), refusal(api.ErrSession))
	p.same(expire(x, lastTime), refusal(api.ErrSession))
	p.same(expire(y, 9), refusal(api.ErrLease))
	p.has("a/b 1", "a/c 2")
	p.does(release(x, 0, "a/b"), refusal(api.ErrSession))
	p.does(end(y, 0), fine())
	p.has("a/b 1")
}

// loaded is the table of two books' bytes.
func loaded(t *testing.T, first uint64, sessions *lease.Book, locks *lock.Book) *table.Table {
	t.Helper()
	o := new(wire.Out)
	sessions.Put(o)
	locks.Put(o)
	x, e := table.Load(first, o.Bytes())
	if e != api.OK {
		t.Fatal(e)
	}
	return x
}

// P18.1: Keep is layer 16's, with Time.
func TestKeep(t *testing.T) {
	p := play(t, table.New(0))
	s := one(1)
	p.does(keep(s, 0, 5), refusal(api.ErrSession))
	p.knows(s, lease.Info{})
	p.does(open(s, 0, 5, 3), fine())
	for _, x := range []struct{ time, deadline int }{{0, 8}, {3, 8}, {4, 9}, {2, 9}, {100, 105}, {lastTime, lastTime + 5}} {
		p.does(keep(s, 0, x.time), fine())
		p.knows(s, lease.Info{Open: true, Deadline: x.deadline, Ttl: 5})
	}
	p.does(end(s, 0), fine())
	p.does(keep(s, 0, 5), refusal(api.ErrSession))
}

// P18.1: Expire is layer 16's, with Time, behind which all locks of the session are gone; nothing of it is told.
func TestExpire(t *testing.T) {
	p := play(t, table.New(0))
	x, y := one(1), one(2)
	p.same(expire(x, lastTime), refusal(api.ErrSession))
	p.does(open(x, 0, 5, 3), fine())
	p.does(open(y, 0, 6, 3), fine())
	p.does(acquire(x, 0, "a", exclusive), granted(1))
	p.does(acquire(y, 0, "a/b", exclusive), waiting(1))
	p.does(acquire(x, 0, "a/b", exclusive), waiting(2))
	p.same(expire(x, 0), refusal(api.ErrLease))
	p.same(expire(x, 7), refusal(api.ErrLease))
	p.same(expire(session(1, "a/b"), 8), refusal(api.ErrSession))
	was := p.Sessions().Info(x).Served
	p.does(expire(x, 8), fine())
	if got := p.Sessions().Info(x); got != (lease.Info{Dead: true, Served: was}) {
		t.Errorf("%+v", got)
	}
	p.has("a/b 2")
	p.does(check(y, 0, "a/b", 1), fine())
	p.same(expire(x, 8), refusal(api.ErrSession))
	p.same(expire(y, 8), refusal(api.ErrLease))
	p.does(keep(y, 0, 4), fine())
	p.same(expire(y, 9), refusal(api.ErrLease))
	p.does(expire(y, lastTime), fine())
	p.has()
}

// P18.1: an Expire asks for no room among the answers, and is no request.
func TestExpireWithoutRoom(t *testing.T) {
	p := play(t, table.New(0))
	s := one(1)
	p.does(open(s, 0, 5, 3), fine())
	for range served - 1 {
		p.does(keep(s, 0, 3), fine())
	}
	p.same(expire(s, 7), refusal(api.ErrLease))
	p.does(expire(s, 8), fine())
	p.knows(s, lease.Info{Dead: true})
}

// P18.1: what is asked of locks: ErrSession, if the session isn't open; then ErrFoot, if its Foot isn't above the Path.
func TestReaches(t *testing.T) {
	p := play(t, table.New(0))
	s := session(1, "a/b")
	asks := func(path string) []cmd.Cmd {
		return []cmd.Cmd{acquire(s, 0, path, shared), try(s, 0, path, exclusive), release(s, 0, path), check(s, 0, path, 1)}
	}
	refuses := func(e api.Errno, paths ...string) {
		t.Helper()
		for _, path := range paths {
			for _, c := range asks(path) {
				p.does(c, refusal(e))
			}
		}
	}
	refuses(api.ErrSession, "a", "a/b", "a/b/c", "b")
	p.opens(s)
	refuses(api.ErrFoot, "a", "a/bc", "a/c", "b", "b/a/b", "a/a/b", strings.Repeat("x", 64))
	for _, path := range []string{"a/b", "a/b/c", "a/b/c/d/e/f/g/h"} {
		p.does(asks(path)[2], refusal(api.ErrLock))
		p.does(asks(path)[3], refusal(api.ErrLock))
		p.does(asks(path)[0], granted(1))
		p.does(asks(path)[3], fine())
		p.does(asks(path)[2], fine())
		p.does(asks(path)[1], granted(2))
		p.does(asks(path)[2], fine())
	}
	// Another session with this number, or with this foot, is another one.
	p.does(acquire(session(1, "a"), 0, "a/b", shared), refusal(api.ErrSession))
	p.does(acquire(session(2, "a/b"), 0, "a/b", shared), refusal(api.ErrSession))
	p.does(end(s, 0), fine())
	refuses(api.ErrSession, "a", "a/b", "b")
	p.has()
}

// P18.1: Acquire is layer 17's Add: the N, and whether it is granted; or its error.
func TestAcquire(t *testing.T) {
	p := play(t, table.New(100))
	x, y, z := one(1), one(2), one(3)
	p.opens(x, y, z)
	p.does(acquire(x, 0, "a/b", shared), granted(101))
	p.does(acquire(y, 0, "a/b", shared), granted(102))
	p.does(acquire(y, 0, "a", exclusive), waiting(101))
	p.does(acquire(z, 0, "a/b", shared), waiting(103))
	p.does(acquire(z, 0, "a/c", shared), waiting(101))
	p.does(acquire(x, 0, "a/b", shared), refusal(api.ErrTwice))
	p.does(acquire(x, 0, "a/b", exclusive), refusal(api.ErrTwice))
	p.does(acquire(y, 0, "a", shared), refusal(api.ErrTwice))
	p.has("a 2", "a/b 1", "a/b 2", "a/b 3", "a/c 3")
}

// P18.1: Try adds what would be granted at once; else ErrHeld; but Add's own errors stand ahead of that.
func TestTry(t *testing.T) {
	p := play(t, table.New(0))
	x, y := one(1), one(2)
	p.opens(x, y)
	p.does(try(x, 0, "a/b", shared), granted(1))
	p.does(try(y, 0, "a/b", shared), granted(2))
	p.does(try(y, 0, "a/c", exclusive), granted(1))
	p.does(try(x, 0, "a/c", shared), refusal(api.ErrHeld))
	p.does(try(x, 0, "a", exclusive), refusal(api.ErrHeld))
	p.does(try(x, 0, "a", shared), refusal(api.ErrHeld))
	p.does(try(x, 0, "a/b/c", exclusive), refusal(api.ErrHeld))
	// The session's own are in its way, too; and no counter rises.
	p.does(try(y, 0, "a/c/d", shared), refusal(api.ErrHeld))
	p.does(try(y, 0, "a/c", shared), refusal(api.ErrTwice))
	p.does(release(y, 0, "a/c"), fine())
	p.does(try(x, 0, "a/c", shared), granted(2))
	p.does(try(x, 0, "a", shared), granted(1))
	p.does(try(x, 0, "a/b/c", exclusive), refusal(api.ErrHeld))
	p.has("a 1", "a/b 1", "a/b 2", "a/c 1")
	// What waits is in the way of what comes behind it.
	p.does(acquire(y, 0, "a", exclusive), waiting(2))
	p.does(try(y, 0, "a/d", shared), refusal(api.ErrHeld))
}

// P18.1: MaxHeld entries, those that wait, too; Try's ErrFull stands ahead of ErrHeld.
func TestHeldFull(t *testing.T) {
	p := play(t, table.New(0))
	x, y := one(1), one(2)
	p.opens(x, y)
	p.does(acquire(y, 0, "a/y", exclusive), granted(1))
	for n := range held {
		p.does(acquire(x, 0, fmt.Sprint("a/", n), exclusive), granted(1))
	}
	for _, path := range []string{"a/z", "a/y", "a/7/7"} {
		p.does(acquire(x, 0, path, shared), refusal(api.ErrFull))
		p.does(try(x, 0, path, shared), refusal(api.ErrFull))
	}
	p.does(acquire(x, 0, "a/7", shared), refusal(api.ErrTwice))
	p.does(try(x, 0, "a/7", shared), refusal(api.ErrTwice))
	p.does(release(x, 0, "a/7"), fine())
	p.does(try(x, 0, "a/y", shared), refusal(api.ErrHeld))
	p.does(try(x, 0, "a/z", shared), granted(1))
}

// P18.1: a counter that is 2^63 - 1 rises no more, and nothing is changed; Try's ErrExhausted stands ahead of ErrHeld.
func TestExhausted(t *testing.T) {
	for _, x := range []struct{ first, more uint64 }{{lastCounter - 1, 1}, {lastCounter, 0}, {1 << 63, 0}, {math.MaxUint64, 0}} {
		p := play(t, table.New(x.first))
		p.opens(one(1), one(2))
		p.does(acquire(one(1), 0, "a", exclusive), map[bool]lease.Answer{true: granted(lastCounter), false: refusal(api.ErrExhausted)}[x.more == 1])
		p.does(acquire(one(2), 0, "a", shared), refusal(api.ErrExhausted))
		p.does(try(one(2), 0, "a", shared), refusal(api.ErrExhausted))
		p.does(check(one(2), 0, "a", lastCounter), map[bool]lease.Answer{true: fine(), false: refusal(api.ErrLock)}[x.more == 1])
		if n := len(p.Locks().List()); n != int(x.more) || p.Locks().Counter("a") != x.first+x.more {
			t.Error(n, p.Locks().Counter("a"))
		}
	}
}

// P18.1: Release is layer 17's Remove.
func TestRelease(t *testing.T) {
	p := play(t, table.New(0))
	x, y := one(1), one(2)
	p.opens(x, y)
	p.does(acquire(x, 0, "a/b", exclusive), granted(1))
	p.does(acquire(y, 0, "a/b", shared), waiting(2))
	p.does(release(x, 0, "a"), refusal(api.ErrLock))
	p.does(release(x, 0, "a/b/c"), refusal(api.ErrLock))
	// What waits may be released as well.
	p.does(release(y, 0, "a/b"), fine())
	p.does(release(y, 0, "a/b"), refusal(api.ErrLock))
	p.has("a/b 1")
	p.does(release(x, 0, "a/b"), fine())
	p.has()
	p.does(acquire(x, 0, "a/b", exclusive), granted(3))
}

// P18.1: Check tells OK of the sequencer of an entry that is granted, whosever it is; else ErrLock.
func TestCheck(t *testing.T) {
	p := play(t, table.New(0))
	x, y := one(1), one(2)
	p.opens(x, y)
	p.does(acquire(x, 0, "a/b", exclusive), granted(1))
	p.does(acquire(y, 0, "a/b", shared), waiting(2))
	for _, s := range []cmd.Session{x, y} {
		for _, c := range []struct {
			path string
			n    uint64
			want lease.Answer
		}{
			{"a/b", 1, fine()}, {"a/b", 2, refusal(api.ErrLock)}, {"a/b", 3, refusal(api.ErrLock)}, {"a/b", lastCounter, refusal(api.ErrLock)},
			{"a", 1, refusal(api.ErrLock)}, {"a/b/c", 1, refusal(api.ErrLock)},
		} {
			p.does(check(s, 0, c.path, c.n), c.want)
		}
	}
	p.does(release(x, 0, "a/b"), fine())
	p.does(check(x, 0, "a/b", 1), refusal(api.ErrLock))
	p.does(check(x, 0, "a/b", 2), fine())
}

// P18.1: N and Granted are those of Acquire and Try alone.
func TestAnswers(t *testing.T) {
	p := play(t, table.New(5))
	s := one(1)
	p.does(open(s, 0, 9, 9), fine())
	p.does(keep(s, 0, 9), fine())
	p.does(try(s, 0, "a", exclusive), granted(6))
	p.does(check(s, 0, "a", 6), fine())
	p.does(release(s, 0, "a"), fine())
	p.does(acquire(s, 0, "a", exclusive), granted(7))
	p.does(expire(s, 18), fine())
}

// P18.3: what was told to a request is its answer, whatever has become of it, and whatever else is asked by it.
func TestAgain(t *testing.T) {
	p := play(t, table.New(0))
	s, other := one(1), one(2)
	p.opens(other)
	l := []cmd.Cmd{open(s, 1, 5, 3), acquire(s, 2, "a/b", exclusive), acquire(s, 3, "a", exclusive), try(s, 4, "a", exclusive), check(s, 5, "a", 1), release(s, 6, "a/b"), check(s, 7, "a", 1), keep(s, math.MaxUint64, 9), end(s, 9), release(s, 10, "a")}
	want := []lease.Answer{fine(), granted(1), waiting(1), refusal(api.ErrTwice), refusal(api.ErrLock), fine(), fine(), fine(), fine(), refusal(api.ErrSession)}
	for n, c := range l {
		if got := p.Apply(c); got != want[n] {
			t.Fatal(n, got)
		}
		for m, again := range l[:n+1] {
			p.same(again, want[m])
		}
	}
	for _, c := range []cmd.Cmd{open(s, 2, 7, 7), acquire(s, 2, "b", shared), release(s, 2, "a/b"), end(s, 2), keep(s, 2, 99), check(s, 2, "c", 7)} {
		p.same(c, granted(1))
	}
	// In another session it is another request.
	p.does(acquire(other, 2, "a/b", exclusive), granted(2))
	if got := p.Apply(acquire(session(1, "a/b"), 2, "a/b", shared)); got != refusal(api.ErrSession) {
		t.Error(got)
	}
	// What isn't right has no answer, though its request has.
	p.same(acquire(s, 2, "a/b", 3), fine())
}

// P18.1, P18.3: without room in the session: ErrFull, which isn't told, nor is anything done; what was told has its answer still.
func TestFull(t *testing.T) {
	p := play(t, table.New(0))
	s, other := one(1), one(2)
	p.opens(s, other)
	p.does(acquire(s, 0, "a/b", exclusive), granted(1))
	for n := range served - 2 {
		p.does(check(s, 0, "a/b", uint64(n+1)), map[bool]lease.Answer{true: fine(), false: refusal(api.ErrLock)}[n == 0])
	}
	for range 2 {
		for _, c := range []cmd.Cmd{open(s, 1000, 5, 5), end(s, 1000), keep(s, 1000, 1<<30), acquire(s, 1000, "a/c", shared), acquire(s, 1000, "b", shared), try(s, 1001, "a/b", shared), release(s, math.MaxUint64, "a/b"), check(s, 1000, "a/b", 1)} {
			p.same(c, refusal(api.ErrFull))
			if a, ok := p.Sessions().Told(s, c.Request); ok || a != fine() {
				t.Error(a)
			}
		}
		p.same(release(s, 2, "a/b"), granted(1))
		p.same(acquire(s, served, "a/b", shared), refusal(api.ErrLock))
		p.does(check(other, 0, "a/b", 1), fine())
	}
	if n := p.Sessions().Info(s).Served; n != served {
		t.Error(n)
	}
}

// P18.3: one that was never opened has no more room than others.
func TestFullUnknown(t *testing.T) {
	p := play(t, table.New(0))
	s := one(1)
	for range served {
		p.does(keep(s, 0, 1), refusal(api.ErrSession))
	}
	p.same(keep(s, 1000, 1), refusal(api.ErrFull))
	p.same(open(s, 1000, 1, 1), refusal(api.ErrFull))
	p.knows(s, lease.Info{})
}

// P18.1: the bytes are those of the sessions, and then those of the locks.
func TestBytes(t *testing.T) {
	p := play(t, table.New(7))
	p.opens(one(1), session(2, "b/c"))
	p.does(acquire(one(1), 0, "a/b", exclusive), granted(8))
	p.does(acquire(session(2, "b/c"), 0, "b/c", shared), granted(8))
	p.does(release(one(1), 0, "a/b"), fine())
	o := new(wire.Out)
	p.Sessions().Put(o)
	p.Locks().Put(o)
	if !bytes.Equal(p.Bytes(), o.Bytes()) {
		t.Error(p.Bytes())
	}
	want := []byte{
		2, 0, 0, 0, 0, 0, 0, 0, 1, 1, 'a', 1, 0, 0xe8, 7, 0xe8, 7, 3,
		1, 0, 0, 0, 0, 0, 0, 0, 0, 0, 0, 2, 0, 0, 0, 0, 0, 0, 0, 0, 8, 1, 3, 0, 0, 0, 0, 0, 0, 0, 0, 0, 0,
		0, 0, 0, 0, 0, 0, 0, 2, 3, 'b', '/', 'c', 1, 0, 0xe8, 7, 0xe8, 7, 2,
		1, 0, 0, 0, 0, 0, 0, 0, 0, 0, 0, 2, 0, 0, 0, 0, 0, 0, 0, 0, 8, 1,
		1, 3, 'b', '/', 'c', 0, 0, 0, 0, 0, 0, 0, 2, 3, 'b', '/', 'c', 1, 0, 0, 0, 0, 0, 0, 0, 8, 1,
		2, 3, 'a', '/', 'b', 0, 0, 0, 0, 0, 0, 0, 8, 3, 'b', '/', 'c', 0, 0, 0, 0, 0, 0, 0, 8,
	}
	if got := p.Bytes(); !bytes.Equal(got, want) {
		t.Errorf("% x, not % x", got, want)
	}
}

// P18.1: Play applies all, in order, to a new table.
func TestPlay(t *testing.T) {
	s, other := one(1), one(2)
	l := []cmd.Cmd{acquire(s, 9, "a", shared), open(s, 1, 5, 5), {}, open(other, 1, 5, 5), acquire(other, 2, "a", exclusive), {Kind: 99}, acquire(s, 2, "a", shared), expire(other, 9), expire(other, 10), check(s, 3, "a", 42), check(s, 4, "a", 43), acquire(s, 9, "a", shared)}
	want := []lease.Answer{refusal(api.ErrSession), fine(), fine(), fine(), granted(42), fine(), waiting(43), refusal(api.ErrLease), fine(), refusal(api.ErrLock), fine(), refusal(api.ErrSession)}
	x, told := table.Play(41, l)
	if !slices.Equal(told, want) {
		t.Error(told)
	}
	y := table.New(41)
	for n, c := range l {
		if got := y.Apply(c); got != want[n] {
			t.Error(n, got)
		}
	}
	if !bytes.Equal(x.Bytes(), y.Bytes()) {
		t.Error("bytes")
	}
	for _, none := range [][]cmd.Cmd{nil, {}} {
		x, told := table.Play(41, none)
		if len(told) != 0 || x.Locks().Counter("a") != 41 || !bytes.Equal(x.Bytes(), []byte{0, 0, 0}) {
			t.Error(told)
		}
	}
}

// some is a table with a bit of all: open sessions and dead ones, answers of all kinds, what is granted and what waits.
func some(t *testing.T, first uint64) *table.Table {
	t.Helper()
	p := play(t, table.New(first))
	x, y, z, far := one(1), one(2), session(3, "a/b"), session(4, "b")
	p.does(open(x, 0, 5, 3), fine())
	p.does(open(y, 0, 6, 3), fine())
	p.opens(z, far)
	p.does(acquire(x, 0, "a/b", exclusive), granted(first+1))
	p.does(acquire(y, 0, "a/b", shared), waiting(first+2))
	p.does(acquire(z, 0, "a/b/c", exclusive), waiting(first+1))
	p.does(acquire(y, 0, "a", shared), waiting(first+1))
	p.does(acquire(x, 0, "a/c", exclusive), waiting(first+1))
	p.does(try(y, 0, "a/d", shared), granted(first+1))
	p.does(acquire(far, 0, "b", exclusive), granted(first+1))
	p.does(end(far, 0), fine())
	p.does(keep(session(5, "c"), 0, 1), refusal(api.ErrSession))
	return p.Table
}

// P18.2: the two orders of commands that don't interfere are the same; of those that do they often aren't, so it could be seen.
func TestOrder(t *testing.T) {
	l := pool(90)
	apart := 0
	for _, x := range []*table.Table{some(t, 0), some(t, lastCounter-2)} {
		first := x.Locks().Counter("z")
		for n, a := range l {
			for _, b := range l[n:] {
				same := commute(x, first, a, b)
				if !clash.Clash(a, b) && !same {
					t.Fatalf("%+v %+v", a, b)
				}
				if !same {
					apart++
				}
			}
		}
	}
	if apart == 0 {
		t.Error("no order is to be seen")
	}
}

// pool has commands of all kinds, with one request, of sessions and on paths that meet, and don't.
func pool(request uint64) []cmd.Cmd {
	l := []cmd.Cmd{{}, {Kind: 10}, acquire(one(1), 0, "a", 1)}
	for _, s := range []cmd.Session{one(1), one(2), session(3, "a/b"), session(9, "a"), session(1, "c"), session(8, "a/d")} {
		l = append(l, open(s, request, 9, 4), end(s, request), keep(s, request, 100), expire(s, 8), expire(s, lastTime))
		for _, p := range []string{"a", "a/b", "a/c"} {
			l = append(l, acquire(s, request, p, shared), acquire(s, request, p, exclusive), try(s, request, p, shared), release(s, request, p), check(s, request, p, 1))
		}
	}
	return l
}

// commute tells whether two commands, one behind the other, either way, give the same.
func commute(x *table.Table, first uint64, a, b cmd.Cmd) bool {
	y, z := x.Copy(first), x.Copy(first)
	yA := y.Apply(a)
	yB := y.Apply(b)
	zB := z.Apply(b)
	zA := z.Apply(a)
	return yA == zA && yB == zB && bytes.Equal(y.Bytes(), z.Bytes())
}

// loads loads what must be right.
func loads(t *testing.T, first uint64, b []byte) *table.Table {
	t.Helper()
	x, e := table.Load(first, b)
	if e != api.OK {
		t.Fatalf("%x: %d", b, e)
	}
	return x
}

// refusesBytes tells whether bytes are refused, with an error.
func refusesBytes(t *testing.T, first uint64, b []byte, want api.Errno) {
	t.Helper()
	if x, e := table.Load(first, b); x != nil || e != want {
		t.Errorf("%x: %v %d, not %d", b, x, e, want)
	}
}

// P18.4: what is loaded has these bytes, and this first number.
func TestLoad(t *testing.T) {
	for _, first := range []uint64{0, 1, 100, lastCounter - 3} {
		x := some(t, first)
		y := loads(t, first, x.Bytes())
		if !bytes.Equal(y.Bytes(), x.Bytes()) || y.Locks().Counter("z") != first || !slices.Equal(y.Locks().List(), x.Locks().List()) {
			t.Error(first)
		}
		answerAlike(t, x, y)
	}
	x := loads(t, math.MaxUint64, []byte{0, 0, 0})
	if !bytes.Equal(x.Bytes(), []byte{0, 0, 0}) || x.Locks().Counter("a") != math.MaxUint64 {
		t.Error(x.Bytes())
	}
}

// answerAlike tells whether two tables answer all of the pool alike, one command behind the other.
func answerAlike(t *testing.T, x, y *table.Table) {
	t.Helper()
	// Of the first of these requests many were answered.
	l := slices.Concat(pool(2), pool(90), pool(91))
	for n := range l {
		// A step that meets all, but not in their order.
		c := l[n*37%len(l)]
		if a, b := x.Change(c), y.Change(c); !sameChange(a, b) {
			t.Fatalf("%+v: %+v %+v", c, a, b)
		}
		if !bytes.Equal(x.Bytes(), y.Bytes()) || !maps.Equal(x.Reach(), y.Reach()) {
			t.Fatalf("%+v", c)
		}
	}
}

// sameChange tells whether two changes are the same.
func sameChange(a, b table.Change) bool {
	return a.Answer == b.Answer && slices.Equal(a.Granted, b.Granted) && slices.Equal(a.Gone, b.Gone)
}

// takeError is the error of layer 16's Take of bytes, and then of layer 17's.
func takeError(b []byte) api.Errno {
	in := wire.NewIn(b)
	lease.Take(in)
	lock.Take(in, 0)
	return in.End()
}

// P18.4: the errors of layer 16's Take, then of layer 17's, then ErrLong; and no table beside them.
func TestLoadErrors(t *testing.T) {
	good := some(t, 0).Bytes()
	for n := range good {
		want := takeError(good[:n])
		if want == api.OK {
			t.Error(n)
		}
		refusesBytes(t, 0, good[:n], want)
	}
	refusesBytes(t, 0, append(bytes.Clone(good), 0), api.ErrLong)
	refusesBytes(t, 0, nil, api.ErrShort)
	refusesBytes(t, 0, []byte{0}, api.ErrShort)
	refusesBytes(t, 0, []byte{0, 0}, api.ErrShort)
	refusesBytes(t, 0, []byte{0, 0, 0, 0}, api.ErrLong)
	refusesBytes(t, 0, []byte{5, 0, 0}, api.ErrRange)
	refusesBytes(t, 0, []byte{0, 5, 0}, api.ErrRange)
	refusesBytes(t, 0, []byte{0, 0, 5}, api.ErrRange)

	// A session that is open and dead; an entry without a mode; something behind the end.
	session := func(dead byte) []byte { return []byte{1, 0, 0, 0, 0, 0, 0, 0, 7, 1, 'a', 1, dead, 0, 0, 0} }
	entry := func(mode byte) []byte {
		return []byte{1, 1, 'a', 0, 0, 0, 0, 0, 0, 0, 7, 1, 'a', mode, 0, 0, 0, 0, 0, 0, 0, 1, 1, 0}
	}
	for _, x := range []struct {
		dead, mode byte
		behind     []byte
		want       api.Errno
	}{
		{0, 1, nil, api.OK}, {0, 1, []byte{0}, api.ErrLong}, {1, 1, nil, api.ErrForm}, {1, 1, []byte{0}, api.ErrForm},
		{0, 0, nil, api.ErrForm}, {0, 0, []byte{9}, api.ErrForm}, {2, 1, nil, api.ErrForm}, {0, 3, []byte{0}, api.ErrForm},
	} {
		b := slices.Concat(session(x.dead), entry(x.mode), x.behind)
		if x.want == api.OK {
			loads(t, 0, b)
		} else {
			refusesBytes(t, 0, b, x.want)
		}
	}
	// ErrForm of the sessions is ahead of whatever is wrong with the locks.
	refusesBytes(t, 0, session(1), api.ErrForm)
	refusesBytes(t, 0, session(0), api.ErrShort)
	refusesBytes(t, 0, append(session(1), 9, 9), api.ErrForm)
	refusesBytes(t, 0, append(session(0), 9, 9), api.ErrRange)
	// Which first number there is counts: a counter that is it wasn't changed.
	one := []byte{0, 0, 1, 1, 'a', 0, 0, 0, 0, 0, 0, 0, 5}
	refusesBytes(t, 5, one, api.ErrForm)
	if x := loads(t, 6, one); x.Locks().Counter("a") != 5 || x.Locks().Counter("b") != 6 {
		t.Error("counters")
	}
}

// P18.4: a copy has the same bytes, and this first number; and the two go ways of their own.
func TestCopy(t *testing.T) {
	x := some(t, 10)
	for _, first := range []uint64{0, 9, 10, 1000, lastCounter, math.MaxUint64} {
		y := x.Copy(first)
		if !bytes.Equal(y.Bytes(), x.Bytes()) || y.Locks().Counter("z") != first || y.Locks().Counter("b") != 11 {
			t.Error(first)
		}
		if y.Sessions() == x.Sessions() || y.Locks() == x.Locks() {
			t.Error("one book for two")
		}
	}
	was := x.Bytes()
	y := x.Copy(10)
	answerAlike(t, x.Copy(10), y)
	if bytes.Equal(y.Bytes(), was) || !bytes.Equal(x.Bytes(), was) {
		t.Error("the copy's way is the table's")
	}
	y = x.Copy(10)
	answerAlike(t, x, x.Copy(10))
	if !bytes.Equal(y.Bytes(), was) {
		t.Error("the table's way is the copy's")
	}
	if b := table.New(3).Copy(4).Bytes(); !bytes.Equal(b, []byte{0, 0, 0}) {
		t.Error(b)
	}
}

// P18.4: with a first number that is a path's counter, all that is told of it is the same, though it isn't a changed one any more.
func TestCopyToACounter(t *testing.T) {
	x := some(t, 10)
	for first, left := range map[uint64][]string{11: {"a/b"}, 12: {"a", "a/b/c", "a/c", "a/d", "b"}} {
		y := x.Copy(first)
		if !slices.Equal(y.Locks().List(), x.Locks().List()) {
			t.Error(y.Locks().List())
		}
		for p, n := range map[string]uint64{"a": 11, "a/b": 12, "a/b/c": 11, "a/c": 11, "a/d": 11, "b": 11, "c": first} {
			if got := y.Locks().Counter(p); got != n {
				t.Error(first, p, got)
			}
		}
		z := loads(t, first, y.Bytes())
		if !bytes.Equal(z.Bytes(), y.Bytes()) {
			t.Error("bytes")
		}
		// Behind the entries, the counters that are left.
		o := new(wire.Out).Short(uint64(len(left)))
		for _, p := range left {
			o.Text(p).Fixed(x.Locks().Counter(p))
		}
		if !bytes.HasSuffix(y.Bytes(), o.Bytes()) {
			t.Errorf("% x", y.Bytes())
		}
		answerAlike(t, y, z)
	}
}

// P18.4, P1: of a table whose sessions no bytes can have a copy is made, too.
func TestCopyOfWhatNoBytesHave(t *testing.T) {
	x := some(t, 0)
	x.Sessions().Tell(one(1), 99, lease.Answer{E: -1})
	y := x.Copy(0)
	if !slices.Equal(y.Locks().List(), x.Locks().List()) {
		t.Error(y.Locks().List())
	}
	y.Bytes()
	y.Change(expire(one(1), 100))
}

// P18.5: what a command did to locks: what is granted now and wasn't, and what is gone.
func TestChange(t *testing.T) {
	x := some(t, 0)
	entry := func(p string, num uint64) lock.Entry {
		for _, e := range x.Locks().List() {
			if e.Path == p && e.Session.Num == num {
				return e
			}
		}
		t.Fatal(p, num)
		return lock.Entry{}
	}
	changes := func(c cmd.Cmd, a lease.Answer, granted []string, gone ...string) {
		t.Helper()
		got := x.Change(c)
		if got.Answer != a || !slices.Equal(names(got.Granted), granted) || !slices.Equal(names(got.Gone), gone) {
			t.Errorf("%+v: %+v", c, got)
		}
	}
	d := entry("a/d", 2)
	ab := entry("a/b", 1)
	changes(cmd.Cmd{}, fine(), nil)
	changes(cmd.Cmd{Kind: 10}, fine(), nil)
	changes(acquire(one(1), 1, "b", 1), fine(), nil)
	changes(acquire(one(1), 50, "b", 1), refusal(api.ErrFoot), nil)
	changes(check(one(1), 51, "a/d", 1), fine(), nil)
	changes(try(one(1), 52, "a/d", exclusive), refusal(api.ErrHeld), nil)
	changes(acquire(one(1), 53, "a/d", exclusive), waiting(2), nil)
	// What waited goes, and nothing comes of it; a Release again changes nothing.
	changes(release(one(1), 54, "a/d"), fine(), nil, "a/d 1")
	changes(release(one(1), 54, "a/d"), fine(), nil)
	changes(release(one(1), 55, "a/b"), fine(), []string{"a/b 2"}, "a/b 1")
	changes(acquire(one(1), 56, "a/b", shared), waiting(3), nil)
	changes(expire(one(2), 8), refusal(api.ErrLease), nil)
	changes(expire(one(2), 9), fine(), []string{"a/b/c 3", "a/c 1"}, "a 2", "a/b 2", "a/d 2")
	changes(end(session(3, "a/b"), 57), fine(), []string{"a/b 1"}, "a/b/c 3")
	changes(acquire(one(1), 58, "a/d", exclusive), granted(3), []string{"a/d 1"})
	changes(end(one(1), 59), fine(), nil, "a/b 1", "a/c 1", "a/d 1")
	changes(end(one(1), 59), fine(), nil)

	// The entries that are told are whole.
	y := some(t, 0)
	got := y.Change(release(one(1), 55, "a/b"))
	if !slices.Equal(got.Gone, []lock.Entry{ab}) {
		t.Error(got)
	}
	if got := y.Change(release(one(2), 56, "a/d")); !slices.Equal(got.Gone, []lock.Entry{d}) {
		t.Error(got)
	}
	want := lock.Entry{Path: "a/d", Session: one(2), Mode: exclusive, N: 2, Stamp: 5}
	if got := y.Change(try(one(2), 57, "a/d", exclusive)); len(got.Granted) != 0 || got.Answer.E != api.ErrHeld {
		t.Error(got)
	}
	y.Change(end(one(1), 60))
	y.Change(release(one(2), 58, "a"))
	want.Stamp = 1
	if got := y.Change(try(one(2), 59, "a/d", exclusive)); !slices.Equal(got.Granted, []lock.Entry{want}) || got.Answer != granted(2) || len(got.Gone) != 0 {
		t.Error(got)
	}
}

// P18.5: an end whose session's locks aren't all below its Foot, in a table of bytes, is told whole.
func TestChangeBeyondTheFoot(t *testing.T) {
	locks := lock.New(0)
	s := session(1, "b")
	locks.Add("a/b", s, exclusive)
	locks.Add("a", one(2), shared)
	locks.Add("c", one(2), shared)
	books := lease.New()
	books.Open(s, 5, 5)
	x := loaded(t, 0, books, locks)
	got := x.Change(end(s, 1))
	if got.Answer != fine() || !slices.Equal(names(got.Granted), []string{"a 2"}) || !slices.Equal(names(got.Gone), []string{"a/b 1"}) {
		t.Error(got)
	}
}

// P18.5: who holds, who waits, what a session holds, how far each that is open reaches.
func TestLooks(t *testing.T) {
	x := some(t, 0)
	for _, y := range []struct {
		p              string
		holds, waiting []string
	}{
		{"a", []string{"a/b 1", "a/d 2"}, []string{"a/b 2", "a 2", "a/b/c 3", "a/c 1"}},
		{"a/b", []string{"a/b 1"}, []string{"a/b 2", "a 2", "a/b/c 3"}},
		{"a/b/c", []string{"a/b 1"}, []string{"a/b 2", "a 2", "a/b/c 3"}},
		{"a/b/c/d", []string{"a/b 1"}, []string{"a/b 2", "a 2", "a/b/c 3"}},
		{"a/b/d", []string{"a/b 1"}, []string{"a/b 2", "a 2"}},
		{"a/c", nil, []string{"a 2", "a/c 1"}},
		{"a/d", []string{"a/d 2"}, []string{"a 2"}},
		{"a/e", nil, []string{"a 2"}},
		{"ab", nil, nil}, {"b", nil, nil}, {"c", nil, nil},
		{"", nil, nil}, {"a/", nil, nil}, {"/a", nil, nil}, {"A", nil, nil}, {"*", nil, nil}, {"a/**", nil, nil}, {"a//b", nil, nil},
		{"a/" + strings.Repeat("x", 62), nil, []string{"a 2"}}, {"a/" + strings.Repeat("x", 63), nil, nil}, {"a/b/c/d/e/f/g/h", []string{"a/b 1"}, []string{"a/b 2", "a 2", "a/b/c 3"}}, {"a/b/c/d/e/f/g/h/i", nil, nil},
	} {
		if got := names(x.Holders(y.p)); !slices.Equal(got, y.holds) {
			t.Errorf("%q: %v", y.p, got)
		}
		if got := x.Waiters(y.p); !sameSet(names(got), y.waiting) || !slices.IsSortedFunc(got, byStamps) {
			t.Errorf("%q: %v", y.p, got)
		}
	}
	if got := x.Held(one(1)); !slices.Equal(got, []lock.Entry{{Path: "a/b", Session: one(1), Mode: exclusive, N: 1, Stamp: 1}}) {
		t.Error(got)
	}
	if got := x.Held(one(2)); !slices.Equal(names(got), []string{"a/d 2"}) {
		t.Error(got)
	}
	for _, s := range []cmd.Session{session(3, "a/b"), session(4, "b"), session(1, "a/b"), session(7, "a"), {}, session(2, "")} {
		if got := x.Held(s); len(got) != 0 {
			t.Error(s, got)
		}
	}
	if got, want := x.Reach(), (map[cmd.Session][2]int{one(1): {2, 1}, one(2): {3, 1}, session(3, "a/b"): {1, 0}}); !maps.Equal(got, want) {
		t.Error(got)
	}
}

// byStamps is the order of stamps, of one that of paths, byte by byte, as these have no bytes below a slash.
func byStamps(a, b lock.Entry) int {
	if a.Stamp != b.Stamp {
		return a.Stamp - b.Stamp
	}
	return strings.Compare(a.Path, b.Path)
}

// sameSet tells whether two lists have the same texts.
func sameSet(a, b []string) bool {
	return slices.Equal(slices.Sorted(slices.Values(a)), slices.Sorted(slices.Values(b)))
}

// P18.5: what waits is told by rising Stamps; of one Stamp by the order of paths, part by part.
func TestWaitersInOrder(t *testing.T) {
	p := play(t, table.New(0))
	x, y := one(1), one(2)
	p.opens(x, y)
	for _, path := range []string{"a/b", "a/c", "a/b-", "a/d"} {
		p.does(acquire(x, 0, path, exclusive), granted(1))
	}
	waits := func(path string, n uint64) { p.does(acquire(y, 0, path, shared), waiting(n)) }
	waits("a/d", 2)
	waits("a/b-/c", 1)
	waits("a/b-", 2)
	waits("a/c", 2)
	waits("a/b/z", 1)
	waits("a/b/c", 1)
	if got := names(p.Waiters("a")); !slices.Equal(got, []string{"a/b/c 2", "a/b/z 2", "a/b-/c 2", "a/c 2", "a/d 2", "a/b- 2"}) {
		t.Error(got)
	}
}

// P18.5: however many wait, those of one Stamp stay in the order of paths.
func TestManyWaiters(t *testing.T) {
	p := play(t, table.New(0))
	x, y := one(1), one(2)
	p.opens(x, y)
	p.does(acquire(x, 0, "a", exclusive), granted(1))
	var early, late []string
	for n := range 60 {
		// 7 and 60 have no part together: each number once.
		place := fmt.Sprintf("a/%02d", n*7%60)
		if n%2 == 0 {
			early = append(early, place+" 2")
		} else {
			p.does(acquire(x, 0, place+"/x", exclusive), waiting(1))
			early = append(early, place+"/x 1")
			late = append(late, place+" 2")
		}
		p.does(acquire(y, 0, place, exclusive), waiting(1))
	}
	slices.Sort(early)
	slices.Sort(late)
	if got := names(p.Waiters("a")); !slices.Equal(got, append(early, late...)) {
		t.Error(got)
	}
}

// P18.5: those that hold are told as List has them, and those that a session holds.
func TestHoldersInOrder(t *testing.T) {
	p := play(t, table.New(0))
	x, y := one(1), one(2)
	p.opens(x, y)
	for _, path := range []string{"a/d", "a/b-", "a", "a/b/z", "a/b"} {
		for _, s := range []cmd.Session{y, x} {
			p.does(acquire(s, 0, path, shared), granted(map[cmd.Session]uint64{y: 1, x: 2}[s]))
		}
	}
	if got := names(p.Holders("a/b")); !slices.Equal(got, []string{"a 2", "a 1", "a/b 2", "a/b 1", "a/b/z 2", "a/b/z 1"}) {
		t.Error(got)
	}
	if got := names(p.Held(x)); !slices.Equal(got, []string{"a 1", "a/b 1", "a/b/z 1", "a/b- 1", "a/d 1"}) {
		t.Error(got)
	}
}

// P18.5: of a session that isn't open nothing is told in Reach, though a table's bytes gave it locks.
func TestReachOfNone(t *testing.T) {
	locks := lock.New(0)
	locks.Add("a", one(1), exclusive)
	locks.Add("a", one(2), exclusive)
	locks.Add("b", one(2), exclusive)
	locks.Add("b", one(3), exclusive)
	books := lease.New()
	for n := range uint64(5) {
		books.Open(one(n), 5, 5)
	}
	books.End(one(3))
	books.Tell(one(9), 1, lease.Answer{})
	books.Open(session(9, ""), 1, 1)
	x := loaded(t, 0, books, locks)
	if got, want := x.Reach(), (map[cmd.Session][2]int{one(0): {}, one(1): {1, 1}, one(2): {2, 1}, one(4): {}, session(9, ""): {}}); !maps.Equal(got, want) {
		t.Error(got)
	}
	if got := names(x.Held(one(3))); len(got) != 0 {
		t.Error(got)
	}
}

// at is where a text's bytes stand; of an empty one nowhere.
func at(s string) *byte {
	if s == "" {
		return nil
	}
	return unsafe.StringData(s)
}

// over gives a text of bytes that may be written over.
func over(b []byte) string {
	return unsafe.String(unsafe.SliceData(b), len(b))
}

// Memory: what is handed in isn't kept: a command's texts, and a table's bytes.
func TestHandedIn(t *testing.T) {
	foot, place := []byte("a"), []byte("a/b")
	s := session(1, over(foot))
	x := table.New(0)
	x.Apply(open(s, 1, 5, 5))
	x.Apply(acquire(s, 2, over(place), exclusive))
	x.Change(acquire(s, 3, over(place), exclusive))
	x.Apply(check(s, 4, over(place), 1))
	x.Apply(keep(session(2, over(foot)), 1, 1))
	x.Waiters(over(place))
	was := x.Bytes()
	given := bytes.Clone(was)
	y := loads(t, 0, given)
	foot[0], place[2] = 'x', 'y'
	clear(given)
	if !bytes.Equal(x.Bytes(), was) || !bytes.Equal(y.Bytes(), was) || x.Reach()[one(1)] != [2]int{1, 1} {
		t.Errorf("%x", x.Bytes())
	}
	foot[0], place[2] = 'a', 'b'
	l := []cmd.Cmd{open(s, 1, 5, 5), acquire(s, 2, over(place), exclusive), {Kind: 9}}
	spare := slices.Clone(l)
	z, _ := table.Play(0, spare[:2])
	if !slices.Equal(spare, l) {
		t.Error("changed")
	}
	was = z.Bytes()
	foot[0], place[2] = 'x', 'y'
	clear(spare)
	if !bytes.Equal(z.Bytes(), was) {
		t.Errorf("%x", z.Bytes())
	}
}

// Memory: what is told is new each time, and shared by nothing.
func TestTold(t *testing.T) {
	s, p := one(1), "a/b"
	x := some(t, 0)
	// Texts that some answer has.
	seen := map[*byte]bool{at(s.Foot): true, at(p): true}
	entries := func(l []lock.Entry) {
		t.Helper()
		if len(l) == 0 {
			t.Error("nothing is told")
		}
		for _, e := range l {
			for _, text := range []string{e.Path, e.Session.Foot} {
				if seen[at(text)] {
					t.Error(e)
				}
				seen[at(text)] = true
			}
		}
		clear(l[:cap(l)])
	}
	was := x.Bytes()
	for range 2 {
		entries(x.Holders(p))
		entries(x.Waiters(p))
		entries(x.Held(s))
		entries(x.Locks().List())
		reach := x.Reach()
		for s := range reach {
			if seen[at(s.Foot)] {
				t.Error(s)
			}
			seen[at(s.Foot)] = true
			reach[s] = [2]int{9, 9}
		}
		clear(reach)
		b := x.Bytes()
		clear(b[:cap(b)])
	}
	if !bytes.Equal(x.Bytes(), was) {
		t.Error("the table is changed")
	}
	c := x.Change(release(s, 99, p))
	entries(c.Granted)
	entries(c.Gone)
	entries(x.Change(end(one(2), 99)).Gone)
}

// Memory: the answers of a Play, and their spare room, are new.
func TestPlayed(t *testing.T) {
	l := []cmd.Cmd{open(one(1), 1, 5, 5), acquire(one(1), 2, "a", exclusive)}
	_, a := table.Play(0, l)
	x, b := table.Play(0, l)
	clear(a[:cap(a)])
	if !slices.Equal(b, []lease.Answer{fine(), granted(1)}) {
		t.Error(b)
	}
	clear(b[:cap(b)])
	if got := x.Apply(l[1]); got != granted(1) {
		t.Error(got)
	}
}
