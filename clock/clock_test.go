package clock_test

import (
	"math"
	"math/rand"
	"slices"
	"testing"

	"moothill/clock"
	"moothill/mark"
)

// at names an instance.
func at(replica, slot int) mark.ID {
	return mark.ID{Replica: replica, Slot: slot}
}

// numbers gives numbers that are edges of something, and extreme ones.
func numbers() []int {
	return []int{math.MinInt, math.MinInt + 1, -1 << 40, -1 << 32, -2, -1, 0, 1, 2, 3, 5, 6, 7, 8, 255, 256, 1022, 1023, 1024,
		1<<32 - 1, 1 << 32, 1<<40 - 1, 1 << 40, 1<<40 + 1, math.MaxInt - 1, math.MaxInt}
}

// ticks lets some ticks go by.
func ticks(c *clock.Clock, n int) {
	for range n {
		c.Tick()
	}
}

// is tells whether a list is as it should be, in order.
func is(t testing.TB, got []mark.ID, want ...mark.ID) {
	t.Helper()
	if !slices.Equal(got, want) {
		t.Errorf("%v, not %v", got, want)
	}
}

// watch tells whether watching told what it should.
func watch(t testing.TB, c *clock.Clock, id mark.ID, want bool) {
	t.Helper()
	if got := c.Watch(id); got != want {
		t.Errorf("%v: %t, not %t", id, got, want)
	}
}

// since tells whether an instance is watched for just so many ticks.
func since(t testing.TB, c *clock.Clock, id mark.ID, age int) {
	t.Helper()
	if !slices.Contains(c.Ripe(age), id) {
		t.Errorf("%v isn't ripe for %d", id, age)
	}
	if slices.Contains(c.Ripe(age+1), id) {
		t.Errorf("%v is ripe for %d", id, age+1)
	}
}

// now tells whether the time is as it should be.
func now(t testing.TB, c *clock.Clock, want int) {
	t.Helper()
	if got := c.Now(); got != want {
		t.Errorf("the time %d, not %d", got, want)
	}
}

// P20.1 and P20.2: the chapter's example.
func TestExample(t *testing.T) {
	c := clock.New()
	ticks(c, 3)
	id := at(2, 7)
	watch(t, c, id, true)
	ticks(c, 2)
	now(t, c, 5)
	is(t, c.Ripe(2), id)
	is(t, c.Ripe(3))
}

// P20.1: a new clock is at 0, and watches nothing.
func TestNew(t *testing.T) {
	c := clock.New()
	now(t, c, 0)
	is(t, c.Watched())
	for _, wait := range numbers() {
		is(t, c.Ripe(wait))
	}
}

// P20.1: each tick is one more, and is told; nothing else moves the time.
func TestTick(t *testing.T) {
	c := clock.New()
	for i := range 1000 {
		now(t, c, i)
		c.Watch(at(0, i))
		c.Again(at(1, i))
		c.Keep(c.Watched()[:1])
		c.Forget(at(1, i))
		c.Ripe(i)
		now(t, c, i)
		if got := c.Tick(); got != i+1 {
			t.Errorf("%d, not %d", got, i+1)
		}
	}
}

// P20.1: what is watched stays watched since it was, and is told to be nothing new.
func TestWatch(t *testing.T) {
	c := clock.New()
	a, b := at(1, 5), at(5, 1)
	watch(t, c, a, true)
	watch(t, c, a, false)
	ticks(c, 2)
	watch(t, c, a, false)
	watch(t, c, b, true)
	watch(t, c, b, false)
	is(t, c.Watched(), a, b)
	ticks(c, 1)
	watch(t, c, a, false)
	since(t, c, a, 3)
	since(t, c, b, 1)
}

// P20.1: what is watched again is watched since now, whether it was or not.
func TestAgain(t *testing.T) {
	c := clock.New()
	a, b, o := at(0, 0), at(0, 1), at(6, 1023)
	watch(t, c, a, true)
	watch(t, c, o, true)
	ticks(c, 4)
	c.Again(a)
	c.Again(b)
	is(t, c.Watched(), a, b, o)
	since(t, c, a, 0)
	since(t, c, b, 0)
	since(t, c, o, 4)
	watch(t, c, b, false)
	ticks(c, 1)
	c.Again(b)
	since(t, c, a, 1)
	since(t, c, b, 0)
	since(t, c, o, 5)
}

// P20.1: what is forgotten isn't watched any more, and may be watched anew; the others stay.
func TestForget(t *testing.T) {
	c := clock.New()
	a, b := at(3, 3), at(3, 4)
	c.Forget(a)
	is(t, c.Watched())
	watch(t, c, a, true)
	watch(t, c, b, true)
	ticks(c, 3)
	c.Forget(a)
	c.Forget(a)
	c.Forget(at(4, 3))
	is(t, c.Watched(), b)
	is(t, c.Ripe(0), b)
	since(t, c, b, 3)
	watch(t, c, a, true)
	ticks(c, 1)
	since(t, c, a, 1)
	since(t, c, b, 4)
	c.Forget(b)
	is(t, c.Watched(), a)
	c.Forget(a)
	is(t, c.Watched())
}

// P20.1: of those that are kept some were watched, and are since then; the others are since now; no other is watched.
func TestKeep(t *testing.T) {
	a, b, o, n := at(0, 9), at(1, 0), at(2, 2), at(6, 6)
	fresh := func() *clock.Clock {
		c := clock.New()
		watch(t, c, b, true)
		ticks(c, 2)
		watch(t, c, a, true)
		ticks(c, 1)
		watch(t, c, o, true)
		ticks(c, 4)
		return c
	}
	age := map[mark.ID]int{a: 5, b: 7, o: 4, n: 0}
	for _, l := range [][]mark.ID{
		nil, {}, {a}, {n}, {a, b}, {b, a}, {a, b, o}, {o, b, a, n}, {n, n}, {n, a, n, a, a}, {b, b, b}, {o, o, n, b, o},
	} {
		c := fresh()
		c.Keep(l)
		want := slices.Clone(l)
		slices.SortFunc(want, mark.ID.Compare)
		want = slices.Compact(want)
		is(t, c.Watched(), want...)
		now(t, c, 7)
		for _, id := range want {
			since(t, c, id, age[id])
		}
		for _, id := range []mark.ID{a, b, o, n} {
			watch(t, c, id, !slices.Contains(l, id))
		}
		ticks(c, 1)
		for _, id := range want {
			since(t, c, id, age[id]+1)
		}
	}
}

// P20.1: what wasn't kept was forgotten: kept a second time it is watched since then.
func TestKeepTwice(t *testing.T) {
	c := clock.New()
	a, b := at(0, 0), at(0, 1)
	c.Keep([]mark.ID{a, b})
	ticks(c, 3)
	c.Keep([]mark.ID{b})
	ticks(c, 1)
	c.Keep([]mark.ID{a, b})
	since(t, c, a, 0)
	since(t, c, b, 4)
	c.Keep(nil)
	is(t, c.Watched())
	watch(t, c, b, true)
}

// P20.2: one is ripe from as many ticks on as the wait is, one that is none or below none too.
func TestRipe(t *testing.T) {
	c := clock.New()
	var all []mark.ID
	for i := range 20 {
		watch(t, c, at(i%7, i), true)
		all = append(all, at(i%7, i))
		c.Tick()
	}
	for _, wait := range append(numbers(), 9, 10, 18, 19, 20, 21) {
		var want []mark.ID
		for i, id := range all {
			if 20-i >= wait {
				want = append(want, id)
			}
		}
		slices.SortFunc(want, mark.ID.Compare)
		is(t, c.Ripe(wait), want...)
	}
	if n := len(c.Watched()); n != 20 {
		t.Error("those that were told are watched no more:", n)
	}
}

// P20.2: by the replica, then by the slot, in whatever order they came, or became ripe.
func TestOrder(t *testing.T) {
	want := []mark.ID{at(0, 0), at(0, 1), at(0, 1023), at(1, 0), at(1, 10), at(2, 9), at(5, 1022), at(6, 0), at(6, 1023)}
	r := rand.New(rand.NewSource(20))
	for range 100 {
		c := clock.New()
		for _, i := range r.Perm(len(want)) {
			watch(t, c, want[i], true)
			ticks(c, r.Intn(3))
		}
		is(t, c.Watched(), want...)
		is(t, c.Ripe(-1), want...)
		c.Keep(nil)
		for _, i := range r.Perm(len(want)) {
			c.Again(want[i])
		}
		is(t, c.Watched(), want...)
	}
}

// P20.1 and P20.2: all names there are at one time.
func TestAllNames(t *testing.T) {
	c := clock.New()
	var all []mark.ID
	for r := range 7 {
		for s := range 1024 {
			all = append(all, at(r, s))
		}
	}
	for i := range all {
		watch(t, c, all[len(all)-1-i], true)
	}
	is(t, c.Watched(), all...)
	c.Tick()
	c.Keep(all[100:7000])
	is(t, c.Ripe(1), all[100:7000]...)
	for _, id := range all[200:] {
		c.Forget(id)
	}
	is(t, c.Watched(), all[100:200]...)
}

// P20.1 and P20.2: names that no instance has are watched like any others, each as itself.
func TestOtherNames(t *testing.T) {
	c := clock.New()
	var want []mark.ID
	for _, r := range numbers() {
		for _, s := range numbers() {
			want = append(want, at(r, s))
			watch(t, c, at(r, s), true)
		}
	}
	is(t, c.Watched(), want...)
	c.Tick()
	for _, id := range want {
		watch(t, c, id, false)
	}
	c.Forget(at(-1, -1))
	c.Again(at(7, 1024))
	left := slices.DeleteFunc(slices.Clone(want), func(id mark.ID) bool { return id == at(-1, -1) })
	is(t, c.Watched(), left...)
	left = slices.DeleteFunc(left, func(id mark.ID) bool { return id == at(7, 1024) })
	is(t, c.Ripe(1), left...)
	c.Keep([]mark.ID{at(8, 8), at(-2, math.MaxInt)})
	is(t, c.Watched(), at(-2, math.MaxInt), at(8, 8))
}

// entry is what a model watches, and since when.
type entry struct {
	id    mark.ID
	since int
}

// model is a clock by the chapter's words.
type model struct {
	now     int
	entries []entry
}

// find is the place of what is watched, or -1.
func (m *model) find(id mark.ID) int {
	return slices.IndexFunc(m.entries, func(e entry) bool { return e.id == id })
}

// watch is what Watch should answer.
func (m *model) watch(id mark.ID) bool {
	if m.find(id) >= 0 {
		return false
	}
	m.entries = append(m.entries, entry{id, m.now})
	return true
}

// forget is what Forget should do.
func (m *model) forget(id mark.ID) {
	m.entries = slices.DeleteFunc(m.entries, func(e entry) bool { return e.id == id })
}

// keep is what Keep should do.
func (m *model) keep(l []mark.ID) {
	m.entries = slices.DeleteFunc(m.entries, func(e entry) bool { return !slices.Contains(l, e.id) })
	for _, id := range l {
		m.watch(id)
	}
}

// ripe is what Ripe should answer.
func (m *model) ripe(wait int) []mark.ID {
	var l []mark.ID
	for _, e := range m.entries {
		if m.now-e.since >= wait {
			l = append(l, e.id)
		}
	}
	slices.SortFunc(l, func(a, b mark.ID) int {
		if a.Replica < b.Replica || a.Replica == b.Replica && a.Slot < b.Slot {
			return -1
		}
		return 1
	})
	return l
}

// step does one thing to a clock and its model.
func step(t testing.TB, c *clock.Clock, m *model, call int, id mark.ID, l []mark.ID) {
	t.Helper()
	switch call % 6 {
	case 0, 1:
		m.now++
		if got := c.Tick(); got != m.now {
			t.Errorf("%d, not %d", got, m.now)
		}
	case 2:
		watch(t, c, id, m.watch(id))
	case 3:
		c.Again(id)
		m.forget(id)
		m.watch(id)
	case 4:
		c.Forget(id)
		m.forget(id)
	case 5:
		c.Keep(l)
		m.keep(l)
	}
}

// against holds a clock against its model.
func (m *model) against(t testing.TB, c *clock.Clock) {
	t.Helper()
	now(t, c, m.now)
	is(t, c.Watched(), m.ripe(math.MinInt)...)
	for wait := -1; wait < 8; wait++ {
		is(t, c.Ripe(wait), m.ripe(wait)...)
	}
}

// P20.1 and P20.2: anything done, in any order, against the chapter's words.
func TestAgainstTheChapter(t *testing.T) {
	r := rand.New(rand.NewSource(2020))
	for range 200 {
		c, m := clock.New(), &model{}
		for range 100 {
			var l []mark.ID
			for range r.Intn(6) {
				l = append(l, at(r.Intn(3), r.Intn(3)))
			}
			step(t, c, m, r.Intn(6), at(r.Intn(3), r.Intn(3)), l)
			m.against(t, c)
		}
		if t.Failed() {
			return
		}
	}
}

// P1, P20.1 and P20.2: any row of calls, against the chapter's words.
func FuzzClock(f *testing.F) {
	f.Add([]byte{2, 0, 0, 0, 0, 0, 0, 0, 0, 2, 1, 1, 5, 9, 3}, 2)
	f.Add([]byte{3, 255, 7, 0, 1, 1, 4, 255, 7, 5, 0, 0, 2, 2, 2}, math.MinInt)
	f.Fuzz(func(t *testing.T, b []byte, wait int) {
		c, m := clock.New(), &model{}
		for len(b) > 2 {
			call, id := int(b[0]), at(int(int8(b[1])), int(int8(b[2])))
			b = b[3:]
			var l []mark.ID
			for i := 0; i+1 < min(len(b), 12); i += 2 {
				l = append(l, at(int(int8(b[i])), int(int8(b[i+1]))))
			}
			step(t, c, m, call, id, l)
			m.against(t, c)
			is(t, c.Ripe(wait), m.ripe(wait)...)
		}
	})
}

// P20.1 and the rule of memory: a list that is handed in is neither changed nor kept, its spare room neither.
func TestMemoryOfWhatIsKept(t *testing.T) {
	c := clock.New()
	watch(t, c, at(1, 1), true)
	l := []mark.ID{at(3, 3), at(1, 1), at(3, 3), at(2, 2), at(5, 5), at(4, 4)}
	whole := slices.Clone(l)
	c.Keep(l[:4])
	c.Watch(at(0, 0))
	c.Watched()
	if !slices.Equal(l, whole) {
		t.Errorf("%v, not %v", l, whole)
	}
	clear(l)
	is(t, c.Watched(), at(0, 0), at(1, 1), at(2, 2), at(3, 3))
}

// P20.2 and the rule of memory: what is told is new, its spare room too.
func TestMemoryOfWhatIsTold(t *testing.T) {
	c := clock.New()
	want := []mark.ID{at(0, 1), at(1, 0), at(2, 2)}
	c.Keep(want)
	lists := [][]mark.ID{c.Watched(), c.Ripe(0), c.Ripe(-5), c.Watched()}
	for i, l := range lists {
		is(t, l, want...)
		l = l[:cap(l)]
		for j := range l {
			l[j] = at(9, i)
		}
		is(t, c.Watched(), want...)
		is(t, c.Ripe(0), want...)
	}
	for i, l := range lists {
		for _, id := range l[:cap(l)] {
			if id != at(9, i) {
				t.Error("two answers share:", id)
			}
		}
	}
	told := c.Watched()
	c.Keep(nil)
	c.Again(at(6, 6))
	is(t, told, want...)
}

// P20.1 and P20.2: two clocks know nothing of each other.
func TestAlone(t *testing.T) {
	one, two := clock.New(), clock.New()
	watch(t, one, at(0, 0), true)
	ticks(one, 3)
	watch(t, two, at(0, 0), true)
	two.Forget(at(0, 0))
	watch(t, two, at(1, 1), true)
	now(t, one, 3)
	now(t, two, 0)
	is(t, one.Watched(), at(0, 0))
	is(t, two.Watched(), at(1, 1))
	since(t, one, at(0, 0), 3)
}

// P1: no call panics, at any numbers.
func TestNoPanic(t *testing.T) {
	for _, i := range numbers() {
		for _, j := range numbers() {
			c := clock.New()
			c.Watch(at(i, j))
			c.Tick()
			c.Again(at(j, i))
			c.Keep([]mark.ID{at(i, i), at(j, j), at(i, i)})
			c.Ripe(i)
			c.Forget(at(i, j))
			c.Forget(at(j, j))
			if len(c.Watched()) > 1 {
				t.Error(c.Watched())
			}
		}
	}
}
