package table_test

import (
	"bytes"
	"cmp"
	"maps"
	"math"
	"math/rand"
	"slices"
	"strings"
	"testing"

	"moothill/api"
	"moothill/clash"
	"moothill/cmd"
	"moothill/lease"
	"moothill/lock"
	"moothill/table"
)

// life is what a model knows of a session.
type life struct {
	open, dead    bool
	deadline, ttl int
	told          map[uint64]lease.Answer
}

// model is a table by the words of the chapters.
type model struct {
	first    uint64
	lives    map[cmd.Session]*life
	entries  []lock.Entry
	counters map[string]uint64
}

// newModel is an empty one.
func newModel(first uint64) *model {
	return &model{first: first, lives: map[cmd.Session]*life{}, counters: map[string]uint64{}}
}

// life is a session's; it is kept just if something is told in it.
func (m *model) life(s cmd.Session) *life {
	if x := m.lives[s]; x != nil {
		return x
	}
	return &life{told: map[uint64]lease.Answer{}}
}

// meet tells whether one of two right paths lies above the other.
func meet(p, q string) bool {
	return strings.HasPrefix(p+"/", q+"/") || strings.HasPrefix(q+"/", p+"/")
}

// granted tells whether nothing with a lower Stamp is in an entry's way.
func (m *model) granted(e lock.Entry) bool {
	return !slices.ContainsFunc(m.entries, func(o lock.Entry) bool {
		return o.Stamp < e.Stamp && meet(o.Path, e.Path) && o.Mode+e.Mode > 2*shared
	})
}

// sorted are the entries of which something holds, part by part, then by Stamps.
func (m *model) sorted(holds func(lock.Entry) bool) []lock.Entry {
	var l []lock.Entry
	for _, e := range m.entries {
		if holds(e) {
			l = append(l, e)
		}
	}
	slices.SortFunc(l, func(a, b lock.Entry) int {
		return cmp.Or(slices.Compare(strings.Split(a.Path, "/"), strings.Split(b.Path, "/")), cmp.Compare(a.Stamp, b.Stamp))
	})
	return l
}

// apply gives the answer to a command that is right.
func (m *model) apply(c cmd.Cmd) lease.Answer {
	if c.Kind == cmd.Noop {
		return lease.Answer{}
	}
	x := m.life(c.Session)
	if c.Kind == cmd.Expire {
		if x.open && c.Time < x.deadline {
			return refusal(api.ErrLease)
		}
		return m.die(c.Session, x)
	}
	if a, ok := x.told[c.Request]; ok {
		return a
	}
	if len(x.told) == served {
		return refusal(api.ErrFull)
	}
	a := m.do(c, x)
	x.told[c.Request] = a
	m.lives[c.Session] = x
	return a
}

// die ends a session, and its locks.
func (m *model) die(s cmd.Session, x *life) lease.Answer {
	if !x.open {
		return refusal(api.ErrSession)
	}
	x.open, x.dead, x.deadline, x.ttl = false, true, 0, 0
	m.entries = slices.DeleteFunc(m.entries, func(e lock.Entry) bool { return e.Session == s })
	return fine()
}

// do does what is asked for, in a session of which this is known.
func (m *model) do(c cmd.Cmd, x *life) lease.Answer {
	switch c.Kind {
	case cmd.Open:
		return m.open(c, x)
	case cmd.Close:
		return m.die(c.Session, x)
	}
	if !x.open {
		return refusal(api.ErrSession)
	}
	if c.Kind == cmd.Keep {
		x.deadline = max(x.deadline, c.Time+x.ttl)
		return fine()
	}
	if !strings.HasPrefix(c.Path+"/", c.Session.Foot+"/") {
		return refusal(api.ErrFoot)
	}
	at := slices.IndexFunc(m.entries, func(e lock.Entry) bool { return e.Path == c.Path && e.Session == c.Session })
	switch {
	case c.Kind == cmd.Check:
		if slices.ContainsFunc(m.entries, func(e lock.Entry) bool { return e.Path == c.Path && e.N == c.N && m.granted(e) }) {
			return fine()
		}
		return refusal(api.ErrLock)
	case c.Kind == cmd.Release && at < 0:
		return refusal(api.ErrLock)
	case c.Kind == cmd.Release:
		m.entries = slices.Delete(m.entries, at, at+1)
		return fine()
	case at >= 0:
		return refusal(api.ErrTwice)
	}
	return m.add(c)
}

// open opens a session.
func (m *model) open(c cmd.Cmd, x *life) lease.Answer {
	same := 0
	for s, o := range m.lives {
		if s.Foot == c.Session.Foot && o.open {
			same++
		}
	}
	switch {
	case x.dead:
		return refusal(api.ErrSession)
	case x.open:
		return refusal(api.ErrTwice)
	case same == sessions:
		return refusal(api.ErrFull)
	}
	x.open, x.deadline, x.ttl = true, c.Time+int(c.N), int(c.N)
	return fine()
}

// add adds a lock, if it may.
func (m *model) add(c cmd.Cmd) lease.Answer {
	if len(m.sorted(func(e lock.Entry) bool { return e.Session == c.Session })) == held {
		return refusal(api.ErrFull)
	}
	n := m.counter(c.Path)
	if n >= lastCounter {
		return refusal(api.ErrExhausted)
	}
	e := lock.Entry{Path: c.Path, Session: c.Session, Mode: c.Mode, N: n + 1, Stamp: 1}
	for _, o := range m.entries {
		if meet(o.Path, e.Path) {
			e.Stamp = max(e.Stamp, o.Stamp+1)
		}
	}
	if c.Kind == cmd.Try && !m.granted(e) {
		return refusal(api.ErrHeld)
	}
	m.counters[c.Path] = n + 1
	m.entries = append(m.entries, e)
	return lease.Answer{N: e.N, Granted: m.granted(e)}
}

// counter is a path's.
func (m *model) counter(p string) uint64 {
	if n, ok := m.counters[p]; ok {
		return n
	}
	return m.first
}

// change is what applying a command does.
func (m *model) change(c cmd.Cmd) table.Change {
	was := slices.Clone(m.entries)
	had := m.sorted(m.granted)
	gone := &model{entries: was}
	var x table.Change
	x.Answer = m.apply(c)
	x.Granted = m.sorted(func(e lock.Entry) bool { return m.granted(e) && !slices.Contains(had, e) })
	x.Gone = gone.sorted(func(e lock.Entry) bool { return !slices.Contains(m.entries, e) })
	return x
}

// world is where random commands are from.
type world struct {
	feet, paths []string
	nums        int
	requests    int
	ttl         int
}

// worlds gives worlds in which much happens.
func worlds() []world {
	return []world{
		{feet: []string{"a"}, paths: []string{"a", "a/b"}, nums: 3, requests: 400, ttl: 300},
		{feet: []string{"a", "b"}, paths: []string{"a", "a/b", "a/b/c", "a/c", "b", "b/a"}, nums: 4, requests: 300, ttl: 100},
		{feet: []string{"a", "a/b", "a/c"}, paths: []string{"a", "a/b", "a/b/c", "a/b/d", "a/c", "a/c/d", "ab"}, nums: 6, requests: 1 << 40, ttl: 60},
		{feet: []string{"a/b", "a/c", "b", "c"}, paths: []string{"a/b", "a/b/c", "a/b/d", "a/c", "a/c/d", "b", "c/x"}, nums: 9, requests: 1 << 40, ttl: 500},
		{feet: []string{"a", "b"}, paths: []string{"a", "a/1", "b", "b/1"}, nums: 200, requests: 12, ttl: 2000},
	}
}

// some gives a right command, at a time.
func (w world) some(r *rand.Rand, now int) cmd.Cmd {
	// Old sessions give way to new ones, as a dead one stays dead.
	num := now/30 + r.Intn(w.nums)
	s := session(uint64(num), w.feet[num%len(w.feet)])
	if r.Intn(20) == 0 {
		s.Foot = w.feet[r.Intn(len(w.feet))]
	}
	request := uint64(1 + r.Intn(w.requests))
	p := w.paths[r.Intn(len(w.paths))]
	for range 3 {
		if !strings.HasPrefix(p, s.Foot) {
			p = w.paths[r.Intn(len(w.paths))]
		}
	}
	switch r.Intn(20) {
	case 0:
		switch r.Intn(4) {
		case 0:
			return end(s, request)
		case 1:
			return cmd.Cmd{}
		}
		return expire(s, now+r.Intn(w.ttl))
	case 1:
		return keep(s, request, now)
	case 2, 3, 4, 5, 6, 7:
		return open(s, request, uint64(1+r.Intn(w.ttl)), now)
	case 8, 9, 10, 11:
		return acquire(s, request, p, shared+r.Intn(2))
	case 12, 13:
		return try(s, request, p, shared+r.Intn(2))
	case 14, 15, 16:
		return release(s, request, p)
	}
	return check(s, request, p, uint64(1+r.Intn(9)))
}

// agrees tells whether a table tells all that a model does.
func agrees(t *testing.T, x *table.Table, m *model, w world) {
	t.Helper()
	reach := map[cmd.Session][2]int{}
	for s, y := range m.lives {
		if got := x.Sessions().Info(s); got != (lease.Info{Open: y.open, Dead: y.dead, Deadline: y.deadline, Ttl: y.ttl, Served: len(y.told)}) {
			t.Fatalf("%v: %+v %+v", s, got, y)
		}
		mine := m.sorted(func(e lock.Entry) bool { return e.Session == s })
		holds := m.sorted(func(e lock.Entry) bool { return e.Session == s && m.granted(e) })
		if got := x.Held(s); !slices.Equal(got, holds) {
			t.Fatalf("%v: %v, not %v", s, got, holds)
		}
		if y.open {
			reach[s] = [2]int{len(mine), len(holds)}
		}
	}
	if got := x.Reach(); !maps.Equal(got, reach) {
		t.Fatal(got, reach)
	}
	if l := x.Sessions().Sessions(); len(l) != len(m.lives) {
		t.Fatal(l)
	}
	if got, want := x.Locks().List(), m.sorted(func(lock.Entry) bool { return true }); !slices.Equal(got, want) {
		t.Fatal(got, want)
	}
	for _, p := range w.paths {
		holds := m.sorted(func(e lock.Entry) bool { return meet(e.Path, p) && m.granted(e) })
		waits := m.sorted(func(e lock.Entry) bool { return meet(e.Path, p) && !m.granted(e) })
		slices.SortStableFunc(waits, func(a, b lock.Entry) int { return cmp.Compare(a.Stamp, b.Stamp) })
		if x.Locks().Counter(p) != m.counter(p) || !slices.Equal(x.Holders(p), holds) || !slices.Equal(x.Waiters(p), waits) {
			t.Fatal(p, x.Holders(p), x.Waiters(p))
		}
	}
}

// P18.1, P18.3, P18.5: anything that is applied, in any order, against the words of the chapters; and once more, which changes nothing.
func TestByWords(t *testing.T) {
	r := rand.New(rand.NewSource(18))
	kinds := map[api.Errno]int{}
	for _, w := range worlds() {
		for _, first := range []uint64{0, 0, 1, 1000, lastCounter - 5} {
			x, m := table.New(first), newModel(first)
			for n := range 400 {
				c := w.some(r, n)
				want := m.change(c)
				var got table.Change
				if n%2 == 0 {
					got = x.Change(c)
				} else {
					got = want
					got.Answer = x.Apply(c)
				}
				if !sameChange(got, want) {
					t.Fatalf("%d %+v: %+v, not %+v", n, c, got, want)
				}
				kinds[got.Answer.E]++
				if n%10 == 0 {
					agrees(t, x, m, w)
					x = loads(t, first, x.Bytes())
				}
				if c.Kind == cmd.Expire {
					continue
				}
				was := x.Bytes()
				if again := x.Change(c); !sameChange(again, table.Change{Answer: want.Answer}) || !bytes.Equal(x.Bytes(), was) {
					t.Fatalf("%d %+v: %+v again", n, c, again)
				}
			}
			agrees(t, x, m, w)
		}
	}
	for _, e := range []api.Errno{api.OK, api.ErrSession, api.ErrTwice, api.ErrFull, api.ErrFoot, api.ErrHeld, api.ErrLock, api.ErrLease, api.ErrExhausted} {
		if kinds[e] == 0 {
			t.Error("never", e, kinds)
		}
	}
}

// P18.2: what doesn't interfere may change its order, in any table that was led to.
func TestOrderByTwos(t *testing.T) {
	r := rand.New(rand.NewSource(19))
	pairs := 0
	for _, w := range worlds() {
		for _, first := range []uint64{0, 7, lastCounter - 10} {
			x := table.New(first)
			for n := range 500 {
				a, b := w.some(r, n), w.some(r, n)
				if !clash.Clash(a, b) {
					pairs++
					if !commute(x, first, a, b) {
						t.Fatalf("%+v %+v", a, b)
					}
				}
				x.Apply(a)
			}
		}
	}
	if pairs < 1000 {
		t.Error(pairs)
	}
}

// P18.2: a whole row of commands, in which neighbours that don't interfere change their places again and again: the same answers, and the same bytes.
func TestOrderOfAll(t *testing.T) {
	r := rand.New(rand.NewSource(20))
	moved := 0
	for _, w := range worlds() {
		for range 5 {
			l := make([]cmd.Cmd, 400)
			at := make([]int, len(l))
			for n := range l {
				l[n], at[n] = w.some(r, n), n
			}
			x, want := table.Play(5, l)
			for range 20000 {
				n := r.Intn(len(l) - 1)
				if !clash.Clash(l[n], l[n+1]) {
					l[n], l[n+1] = l[n+1], l[n]
					at[n], at[n+1] = at[n+1], at[n]
					moved++
				}
			}
			y, got := table.Play(5, l)
			for n, a := range got {
				if a != want[at[n]] {
					t.Fatalf("%+v: %+v, not %+v", l[n], a, want[at[n]])
				}
			}
			if !bytes.Equal(x.Bytes(), y.Bytes()) {
				t.Fatal("bytes")
			}
		}
	}
	if moved < 10000 {
		t.Error(moved)
	}
}

// numbers has numbers at edges.
func numbers() []int {
	return []int{math.MinInt, -1, 0, 1, 2, 3, 8, 9, 1 << 20, 1<<20 + 1, 1 << 40, 1<<40 + 1, 1 << 62, math.MaxInt}
}

// P1, P18.1: no command makes it panic, whatever stands in it; what isn't right does nothing.
func TestAnyCommand(t *testing.T) {
	r := rand.New(rand.NewSource(21))
	l := numbers()
	one := func() int { return l[r.Intn(len(l))] }
	texts := []string{"", "a", "a/b", "a/b/c", "/", "A", strings.Repeat("x", 64), strings.Repeat("x", 65), strings.Repeat("a/", 300), "\xff"}
	text := func() string { return texts[r.Intn(len(texts))] }
	for _, first := range []uint64{0, math.MaxUint64} {
		x := some18(t, first)
		for range 20000 {
			c := cmd.Cmd{Kind: r.Intn(10), Session: session(uint64(r.Intn(3)), text()), Request: uint64(r.Intn(50)), Path: text(), Mode: r.Intn(4), N: uint64(one()), Time: one()}
			if r.Intn(5) == 0 {
				c.Kind, c.Mode, c.Request = one(), one(), uint64(one())
			}
			was := x.Bytes()
			got := x.Apply(c)
			if !c.Right() && (got != fine() || !bytes.Equal(x.Bytes(), was)) {
				t.Fatalf("%+v: %+v", c, got)
			}
			p := text()
			for _, e := range append(x.Holders(p), x.Waiters(p)...) {
				if !meet(e.Path, p) {
					t.Fatal(p, e)
				}
			}
			x.Held(c.Session)
		}
	}
}

// some18 is a table with an open session of each number.
func some18(t *testing.T, first uint64) *table.Table {
	t.Helper()
	p := play(t, table.New(first))
	p.opens(session(0, "a"), session(1, "a"), session(2, "a/b"))
	return p.Table
}

// P1, P18.4: bytes are loaded as the layers below say; what is loaded goes on without a panic, and tells by its own words what is so.
func FuzzLoad(f *testing.F) {
	x := table.New(0)
	for n, c := range append(pool(1), pool(2)...) {
		x.Apply(c)
		if n%20 == 0 {
			f.Add(uint64(0), x.Bytes(), c.Bytes())
			f.Add(uint64(1), x.Bytes(), c.Bytes())
		}
	}
	f.Add(uint64(7), []byte{0, 0, 0}, []byte{})
	f.Add(uint64(7), []byte{0, 0}, []byte{9})
	f.Fuzz(func(t *testing.T, first uint64, b []byte, of []byte) {
		x, e := table.Load(first, b)
		if (e == api.OK) != (x != nil) {
			t.Fatal(e)
		}
		if e != api.OK {
			return
		}
		if !bytes.Equal(x.Bytes(), b) {
			t.Fatalf("%x, not %x", x.Bytes(), b)
		}
		c, _ := cmd.Parse(of)
		y := x.Copy(first)
		if !bytes.Equal(y.Bytes(), b) {
			t.Fatalf("%x, not %x", y.Bytes(), b)
		}
		x.Copy(first + 1).Bytes()
		was := x.Locks().List()
		got := x.Change(c)
		if a := y.Apply(c); a != got.Answer || !bytes.Equal(x.Bytes(), y.Bytes()) {
			t.Fatal(a, got)
		}
		for _, e := range was {
			_, there := x.Locks().Find(e.Path, e.Session)
			if there == slices.Contains(got.Gone, e) {
				t.Fatal(got.Gone, e)
			}
		}
		for _, e := range x.Locks().List() {
			if holds := x.Locks().Granted(e); holds != slices.Contains(x.Holders(e.Path), e) || holds == slices.Contains(x.Waiters(e.Path), e) || holds != slices.Contains(x.Held(e.Session), e) {
				t.Fatal(e)
			}
		}
		if c.Client() {
			again := x.Change(c)
			if !sameChange(again, table.Change{Answer: got.Answer}) {
				t.Fatal(again)
			}
		}
	})
}
