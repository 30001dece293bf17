package disk_test

import (
	"bytes"
	"math"
	"math/rand"
	"strings"
	"testing"

	"moothill/api"
	"moothill/disk"
)

// least and most are the edges of a disk's size.
const (
	least = 1 << 10
	most  = 1 << 22
)

// keep is what is kept of both files behind a crash.
type keep = [2]int

// nofiles gives numbers that no file has.
func nofiles() []int {
	return []int{-1, 2, 3, -2, 7, 256, 1 << 32, 1<<32 + 1, math.MinInt, math.MinInt + 1, math.MaxInt, math.MaxInt - 1}
}

// fresh is a new disk of the least size.
func fresh(t testing.TB) *disk.Disk {
	t.Helper()
	d, e := disk.New(least)
	if e != api.OK || d == nil {
		t.Fatal(d, e)
	}
	return d
}

// is tells whether a call answered what it should.
func is(t testing.TB, got, want api.Errno) {
	t.Helper()
	if got != want {
		t.Errorf("%d, not %d", got, want)
	}
}

// put appends a text that there is room and power for.
func put(t testing.TB, d *disk.Disk, f int, text string) {
	t.Helper()
	is(t, d.Append(f, []byte(text)), api.OK)
}

// holds tells whether a file has just these bytes, of which so many are safe, on a disk that is up.
func holds(t testing.TB, d *disk.Disk, f int, text string, safe int) {
	t.Helper()
	if got := string(d.Read(f)); got != text {
		t.Errorf("file %d: %q, not %q", f, got, text)
	}
	if got := d.Safe(f); got != safe {
		t.Errorf("file %d: %d are safe, not %d", f, got, safe)
	}
	if got := d.Left(); got != d.Size()-len(d.Read(0))-len(d.Read(1)) {
		t.Error(got, d.Size(), len(d.Read(0)), len(d.Read(1)))
	}
}

// down tells whether the power is as it should be.
func down(t testing.TB, d *disk.Disk, want bool) {
	t.Helper()
	if d.Down() != want {
		t.Error("down:", d.Down())
	}
}

// P13.2 and P13.3: the chapter's example.
func TestExample(t *testing.T) {
	d := fresh(t)
	d.Arm(2)
	is(t, d.Append(0, []byte("abc")), api.ErrDown)
	holds(t, d, 0, "ab", 0)
	down(t, d, true)
	d.Crash(keep{1, 0})
	holds(t, d, 0, "a", 1)
	down(t, d, false)
}

// P13.1: sizes at the edges, and past them.
func TestNew(t *testing.T) {
	for _, size := range []int{least, least + 1, 5000, most - 1, most} {
		d, e := disk.New(size)
		if e != api.OK || d == nil {
			t.Fatal(size, d, e)
		}
		if d.Size() != size || d.Left() != size {
			t.Error(size, d.Size(), d.Left())
		}
		holds(t, d, 0, "", 0)
		holds(t, d, 1, "", 0)
		down(t, d, false)
	}
	for _, size := range []int{least - 1, most + 1, 0, 1, -1, -least, -most, 1<<32 + least, math.MinInt, math.MaxInt} {
		if d, e := disk.New(size); d != nil || e != api.ErrSize {
			t.Error(size, d, e)
		}
	}
}

// P13.1: no two disks have a file together, and a disk's two files have nothing together.
func TestNewAlone(t *testing.T) {
	a, b := fresh(t), fresh(t)
	put(t, a, 0, "a")
	put(t, a, 1, "bc")
	is(t, a.Sync(1), api.OK)
	a.Arm(0)
	is(t, a.Sync(0), api.ErrDown)
	holds(t, a, 0, "a", 0)
	holds(t, a, 1, "bc", 2)
	holds(t, b, 0, "", 0)
	holds(t, b, 1, "", 0)
	down(t, b, false)
	put(t, b, 0, "z")
	holds(t, a, 0, "a", 0)
}

// P13.1: a disk isn't armed at first: it has power for however much.
func TestNewNotArmed(t *testing.T) {
	d := fresh(t)
	for range 3 * least {
		put(t, d, 0, "a")
		is(t, d.Sync(0), api.OK)
		is(t, d.Trim(0, 0), api.OK)
	}
	down(t, d, false)
}

// P13.1: of a file that isn't there nothing is told.
func TestNoFile(t *testing.T) {
	d := fresh(t)
	put(t, d, 0, "abc")
	put(t, d, 1, "de")
	is(t, d.Sync(0), api.OK)
	is(t, d.Sync(1), api.OK)
	for _, f := range nofiles() {
		if b, safe := d.Read(f), d.Safe(f); len(b) != 0 || safe != 0 {
			t.Error(f, b, safe)
		}
	}
}

// P13.1: both files share the room, which Append takes and Trim gives back.
func TestLeft(t *testing.T) {
	d := fresh(t)
	for _, s := range []struct {
		do   func() api.Errno
		left int
	}{
		{func() api.Errno { return d.Append(0, make([]byte, 100)) }, 924},
		{func() api.Errno { return d.Append(1, make([]byte, 50)) }, 874},
		{func() api.Errno { return d.Sync(0) }, 874},
		{func() api.Errno { return d.Append(0, nil) }, 874},
		{func() api.Errno { return d.Trim(0, 90) }, 884},
		{func() api.Errno { return d.Trim(1, 0) }, 934},
		{func() api.Errno { return d.Append(1, make([]byte, 934)) }, 0},
		{func() api.Errno { return d.Trim(0, 0) }, 90},
		{func() api.Errno { d.Crash(keep{}); return api.OK }, 1024},
	} {
		is(t, s.do(), api.OK)
		if d.Left() != s.left || d.Size() != least {
			t.Error(d.Left(), s.left, d.Size())
		}
	}
}

// P13.2: bytes come behind those that are there, of their own file alone, and aren't safe.
func TestAppend(t *testing.T) {
	d := fresh(t)
	put(t, d, 1, "abc")
	holds(t, d, 1, "abc", 0)
	holds(t, d, 0, "", 0)
	put(t, d, 1, "")
	is(t, d.Append(1, nil), api.OK)
	holds(t, d, 1, "abc", 0)
	is(t, d.Sync(1), api.OK)
	put(t, d, 1, "de")
	holds(t, d, 1, "abcde", 3)
	put(t, d, 0, "\x00\xff")
	holds(t, d, 0, "\x00\xff", 0)
	holds(t, d, 1, "abcde", 3)
}

// P13.2: what there isn't room for is refused whole, and takes nothing.
func TestAppendFull(t *testing.T) {
	for _, size := range []int{least, least + 1, 4096, most - 1, most} {
		d, _ := disk.New(size)
		for _, n := range []int{size + 1, size + 2, 2 * size} {
			is(t, d.Append(0, make([]byte, n)), api.ErrFull)
		}
		holds(t, d, 0, "", 0)
		is(t, d.Append(0, make([]byte, size-10)), api.OK)
		is(t, d.Append(1, make([]byte, 11)), api.ErrFull)
		holds(t, d, 1, "", 0)
		put(t, d, 1, "1234567")
		is(t, d.Append(0, make([]byte, 4)), api.ErrFull)
		put(t, d, 1, "890")
		for f := range 2 {
			is(t, d.Append(f, []byte{1}), api.ErrFull)
			is(t, d.Append(f, nil), api.OK)
		}
		holds(t, d, 1, "1234567890", 0)
		if d.Left() != 0 || len(d.Read(0)) != size-10 {
			t.Error(size, d.Left(), len(d.Read(0)))
		}
		down(t, d, false)
	}
}

// P13.2: no file, then no power, then no room.
func TestErrorsInOrder(t *testing.T) {
	d := fresh(t)
	put(t, d, 0, "abc")
	is(t, d.Sync(0), api.OK)
	refused := func(f int, appending, great, syncing, trimming, wrong api.Errno) {
		t.Helper()
		is(t, d.Append(f, []byte("x")), appending)
		is(t, d.Append(f, nil), appending)
		is(t, d.Append(f, make([]byte, least+1)), great)
		is(t, d.Sync(f), syncing)
		is(t, d.Trim(f, 0), trimming)
		for _, n := range []int{-1, 4, math.MinInt, math.MaxInt} {
			is(t, d.Trim(f, n), wrong)
		}
	}
	for range 2 {
		for _, f := range nofiles() {
			refused(f, api.ErrRange, api.ErrRange, api.ErrRange, api.ErrRange, api.ErrRange)
		}
		d.Arm(0)
		is(t, d.Sync(0), api.ErrDown)
		for f := range 2 {
			refused(f, api.ErrDown, api.ErrDown, api.ErrDown, api.ErrDown, api.ErrDown)
		}
		holds(t, d, 0, "abc", 3)
		holds(t, d, 1, "", 0)
	}
}

// P13.2: what is refused for its form, or for want of room, spends no unit.
func TestRefusedSpendsNothing(t *testing.T) {
	d := fresh(t)
	put(t, d, 0, "abc")
	for _, units := range []int{0, 1, 5} {
		c := d.Copy()
		c.Arm(units)
		for range 10 {
			for _, f := range nofiles() {
				is(t, c.Append(f, []byte("x")), api.ErrRange)
				is(t, c.Sync(f), api.ErrRange)
				is(t, c.Trim(f, 0), api.ErrRange)
			}
			is(t, c.Append(0, make([]byte, least)), api.ErrFull)
			is(t, c.Trim(0, 4), api.ErrRange)
			is(t, c.Trim(0, -1), api.ErrRange)
			is(t, c.Trim(1, 1), api.ErrRange)
		}
		down(t, c, false)
		for range units {
			is(t, c.Sync(0), api.OK)
		}
		down(t, c, false)
		is(t, c.Sync(0), api.ErrDown)
	}
}

// P13.2: all bytes of a file are safe then, and none of the other one.
func TestSync(t *testing.T) {
	d := fresh(t)
	is(t, d.Sync(0), api.OK)
	holds(t, d, 0, "", 0)
	put(t, d, 0, "ab")
	put(t, d, 1, "cde")
	is(t, d.Sync(1), api.OK)
	holds(t, d, 0, "ab", 0)
	holds(t, d, 1, "cde", 3)
	put(t, d, 1, "f")
	holds(t, d, 1, "cdef", 3)
	is(t, d.Sync(1), api.OK)
	is(t, d.Sync(1), api.OK)
	holds(t, d, 1, "cdef", 4)
	holds(t, d, 0, "ab", 0)
}

// P13.2: the first n bytes stay, of which those that were safe are.
func TestTrim(t *testing.T) {
	for safe := range 6 {
		for n := -2; n <= 7; n++ {
			for f := range 2 {
				d := fresh(t)
				put(t, d, 1-f, "other")
				put(t, d, f, "abcde"[:safe])
				is(t, d.Sync(f), api.OK)
				put(t, d, f, "abcde"[safe:])
				if n < 0 || n > 5 {
					is(t, d.Trim(f, n), api.ErrRange)
					holds(t, d, f, "abcde", safe)
				} else {
					is(t, d.Trim(f, n), api.OK)
					holds(t, d, f, "abcde"[:n], min(n, safe))
				}
				holds(t, d, 1-f, "other", 0)
			}
		}
	}
}

// P13.2: places that no file has.
func TestTrimWrong(t *testing.T) {
	d := fresh(t)
	put(t, d, 0, "abc")
	put(t, d, 1, "abcdef")
	for _, n := range []int{-1, 4, 5, 6, least, math.MinInt, math.MaxInt, 1 << 32, 1<<32 + 2} {
		is(t, d.Trim(0, n), api.ErrRange)
	}
	is(t, d.Trim(1, 7), api.ErrRange)
	holds(t, d, 0, "abc", 0)
	holds(t, d, 1, "abcdef", 0)
}

// P13.2: what comes behind a cut isn't safe, though the bytes that stood there were.
func TestTrimThenAppend(t *testing.T) {
	d := fresh(t)
	put(t, d, 0, "abcdef")
	is(t, d.Sync(0), api.OK)
	is(t, d.Trim(0, 3), api.OK)
	put(t, d, 0, "xyz")
	holds(t, d, 0, "abcxyz", 3)
	d.Crash(keep{1, 9})
	holds(t, d, 0, "abcx", 4)
}

// P13.2: a unit a byte: the bytes ahead of the last one are there.
func TestAppendDown(t *testing.T) {
	for units := range 9 {
		for f := range 2 {
			d := fresh(t)
			put(t, d, f, "ab")
			is(t, d.Sync(f), api.OK)
			put(t, d, f, "c")
			d.Arm(units)
			if units < 6 {
				is(t, d.Append(f, []byte("123456")), api.ErrDown)
			} else {
				is(t, d.Append(f, []byte("123456")), api.OK)
			}
			holds(t, d, f, "abc"+"123456"[:min(units, 6)], 2)
			holds(t, d, 1-f, "", 0)
			down(t, d, units < 6)
		}
	}
}

// P13.2: no bytes are no unit: without one the power stays.
func TestAppendNothing(t *testing.T) {
	d := fresh(t)
	d.Arm(0)
	for f := range 2 {
		is(t, d.Append(f, nil), api.OK)
		is(t, d.Append(f, []byte{}), api.OK)
	}
	down(t, d, false)
	is(t, d.Append(1, []byte{0}), api.ErrDown)
	down(t, d, true)
	is(t, d.Append(1, nil), api.ErrDown)
	holds(t, d, 1, "", 0)
}

// P13.2: without a unit a Sync and a Trim do nothing, but that the power goes.
func TestSyncAndTrimDown(t *testing.T) {
	for f := range 2 {
		for _, call := range []func(d *disk.Disk) api.Errno{
			func(d *disk.Disk) api.Errno { return d.Sync(f) },
			func(d *disk.Disk) api.Errno { return d.Trim(f, 0) },
			func(d *disk.Disk) api.Errno { return d.Trim(f, 3) },
		} {
			d := fresh(t)
			put(t, d, f, "ab")
			is(t, d.Sync(f), api.OK)
			put(t, d, f, "c")
			d.Arm(1)
			is(t, call(d.Copy()), api.OK)
			d.Arm(0)
			down(t, d, false)
			is(t, call(d), api.ErrDown)
			down(t, d, true)
			holds(t, d, f, "abc", 2)
		}
	}
}

// script is what all units of a row of calls are: 3 + 1 + 2 + 1 + 1 + 1.
func script(d *disk.Disk) []api.Errno {
	return []api.Errno{
		d.Append(0, []byte("abc")),
		d.Sync(0),
		d.Append(1, []byte("de")),
		d.Trim(0, 1),
		d.Sync(1),
		d.Trim(0, 1),
	}
}

// P13.2: the power goes at each unit of a row of calls; all calls ahead are done whole, all behind are refused.
func TestPowerAtEachUnit(t *testing.T) {
	for units, w := range []struct {
		done        int
		zero, one   string
		safe, other int
	}{
		{0, "", "", 0, 0},
		{0, "a", "", 0, 0},
		{0, "ab", "", 0, 0},
		{1, "abc", "", 0, 0},
		{2, "abc", "", 3, 0},
		{2, "abc", "d", 3, 0},
		{3, "abc", "de", 3, 0},
		{4, "a", "de", 1, 0},
		{5, "a", "de", 1, 2},
		{6, "a", "de", 1, 2},
		{6, "a", "de", 1, 2},
	} {
		d := fresh(t)
		d.Arm(units)
		for n, e := range script(d) {
			if n < w.done {
				is(t, e, api.OK)
			} else {
				is(t, e, api.ErrDown)
			}
		}
		holds(t, d, 0, w.zero, w.safe)
		holds(t, d, 1, w.one, w.other)
		down(t, d, w.done < 6)
	}
}

// P13.3: below 0 is 0, and a number is spent to the unit.
func TestArm(t *testing.T) {
	for _, units := range []int{math.MinInt, math.MinInt + 1, -most, -2, -1, 0, 1, 2, 3, 100, least, 1 << 32, math.MaxInt - 1, math.MaxInt} {
		d := fresh(t)
		d.Arm(units)
		n := max(0, min(units, 2*least))
		for range n {
			is(t, d.Sync(1), api.OK)
		}
		down(t, d, false)
		if units == n || units < 0 {
			is(t, d.Sync(1), api.ErrDown)
			down(t, d, true)
		} else {
			is(t, d.Append(0, make([]byte, least)), api.OK)
			down(t, d, false)
		}
	}
}

// P13.3: the last number holds, however many units the one ahead had left.
func TestArmAgain(t *testing.T) {
	for _, first := range []int{-1, 0, 1, 5, math.MaxInt} {
		for _, second := range []int{-1, 0, 1, 5} {
			d := fresh(t)
			d.Arm(first)
			d.Arm(second)
			n := max(second, 0)
			is(t, d.Append(0, []byte("123456")), api.ErrDown)
			holds(t, d, 0, "123456"[:n], 0)
		}
	}
	d := fresh(t)
	d.Arm(3)
	put(t, d, 0, "ab")
	d.Arm(3)
	put(t, d, 0, "cde")
	is(t, d.Append(0, []byte("f")), api.ErrDown)
	holds(t, d, 0, "abcde", 0)
}

// P13.3: arming doesn't bring a disk up; a crash does, and then it isn't armed.
func TestArmDown(t *testing.T) {
	d := fresh(t)
	put(t, d, 0, "abc")
	d.Arm(0)
	is(t, d.Sync(0), api.ErrDown)
	for _, units := range []int{-1, 0, 1, 100, math.MaxInt} {
		d.Arm(units)
		down(t, d, true)
		for f := range 2 {
			is(t, d.Append(f, []byte("x")), api.ErrDown)
			is(t, d.Append(f, nil), api.ErrDown)
			is(t, d.Sync(f), api.ErrDown)
			is(t, d.Trim(f, 0), api.ErrDown)
		}
		holds(t, d, 0, "abc", 0)
		holds(t, d, 1, "", 0)
	}
	d.Arm(1)
	d.Crash(keep{3, 0})
	for range 10 {
		put(t, d, 0, "x")
		is(t, d.Sync(0), api.OK)
	}
	holds(t, d, 0, "abcxxxxxxxxxx", 13)
}

// P13.3: the safe bytes stay, and as many of the others as are kept; all that is left is safe.
func TestCrash(t *testing.T) {
	for safe := range 5 {
		for _, n := range []int{math.MinInt, -most, -1, 0, 1, 2, 3, 4, 5, least, math.MaxInt - 4, math.MaxInt - 1, math.MaxInt} {
			for f := range 2 {
				d := fresh(t)
				for g, text := range []string{"abcd", "vwxyz"} {
					put(t, d, g, text[:safe])
					is(t, d.Sync(g), api.OK)
					put(t, d, g, text[safe:])
				}
				k := keep{1, 1}
				k[f] = n
				d.Crash(k)
				for g, text := range []string{"abcd", "vwxyz"} {
					left := safe + max(0, min(k[g], len(text)-safe))
					holds(t, d, g, text[:left], left)
				}
			}
		}
	}
}

// P13.3: behind a crash a disk is up, and not armed, whether it was down, armed, or neither.
func TestCrashUp(t *testing.T) {
	for _, arm := range []func(d *disk.Disk){
		func(d *disk.Disk) {},
		func(d *disk.Disk) { d.Arm(0) },
		func(d *disk.Disk) { d.Arm(5) },
		func(d *disk.Disk) { d.Arm(0); d.Sync(0) },
		func(d *disk.Disk) { d.Arm(1); d.Append(1, []byte("xy")); d.Arm(2) },
	} {
		d := fresh(t)
		put(t, d, 0, "ab")
		arm(d)
		d.Crash(keep{1, 0})
		down(t, d, false)
		holds(t, d, 0, "a", 1)
		holds(t, d, 1, "", 0)
		for _, e := range script(d) {
			is(t, e, api.OK)
		}
		is(t, d.Append(0, make([]byte, d.Left())), api.OK)
		down(t, d, false)
	}
}

// P13.3: what a crash left is safe: another one takes nothing of it.
func TestCrashAgain(t *testing.T) {
	d := fresh(t)
	put(t, d, 0, "abc")
	put(t, d, 1, "de")
	d.Crash(keep{2, 5})
	for range 3 {
		d.Crash(keep{})
		holds(t, d, 0, "ab", 2)
		holds(t, d, 1, "de", 2)
	}
	put(t, d, 0, "x")
	put(t, d, 1, "yz")
	d.Crash(keep{0, 1})
	holds(t, d, 0, "ab", 2)
	holds(t, d, 1, "dey", 3)
}

// P13.3: a copy tells the same, and goes the same way from there on.
func TestCopy(t *testing.T) {
	for units := -1; units < 12; units++ {
		d := fresh(t)
		put(t, d, 0, "ab")
		is(t, d.Sync(0), api.OK)
		put(t, d, 0, "c")
		put(t, d, 1, "d")
		if units >= 0 {
			d.Arm(units)
		}
		for range 3 {
			c := d.Copy()
			if c == d {
				t.Fatal("the disk itself")
			}
			same(t, c, d)
			cc := c.Copy()
			first, second := script(c), script(d)
			for n := range first {
				is(t, first[n], second[n])
			}
			same(t, c, d)
			script(cc)
			same(t, cc, d)
			c.Crash(keep{1, 0})
			cc.Crash(keep{1, 0})
			same(t, c, cc)
		}
	}
}

// same tells whether two disks tell the same.
func same(t testing.TB, a, b *disk.Disk) {
	t.Helper()
	if a.Size() != b.Size() || a.Left() != b.Left() || a.Down() != b.Down() {
		t.Error(a.Size(), b.Size(), a.Left(), b.Left(), a.Down(), b.Down())
	}
	for f := -1; f <= 2; f++ {
		if !bytes.Equal(a.Read(f), b.Read(f)) || a.Safe(f) != b.Safe(f) {
			t.Errorf("file %d: %q %d, %q %d", f, a.Read(f), a.Safe(f), b.Read(f), b.Safe(f))
		}
	}
}

// P13.3: what is done to a copy isn't done to its disk, nor the other way round.
func TestCopyAlone(t *testing.T) {
	for _, change := range []func(d *disk.Disk){
		func(d *disk.Disk) { d.Append(0, []byte("xyz")) },
		func(d *disk.Disk) { d.Append(1, []byte("xyz")) },
		func(d *disk.Disk) { d.Sync(0) },
		func(d *disk.Disk) { d.Trim(0, 1) },
		func(d *disk.Disk) { d.Trim(0, 1); d.Append(0, []byte("uvw")) },
		func(d *disk.Disk) { d.Arm(0); d.Sync(1) },
		func(d *disk.Disk) { d.Crash(keep{}) },
		func(d *disk.Disk) { d.Crash(keep{}); d.Append(0, []byte("uvw")) },
	} {
		filled := func() *disk.Disk {
			d := fresh(t)
			put(t, d, 0, "a")
			is(t, d.Sync(0), api.OK)
			put(t, d, 0, "bc")
			put(t, d, 1, "d")
			return d
		}
		want := filled()
		put(t, want, 0, "ef")
		put(t, want, 1, "gh")
		alone := filled()
		change(alone)
		for _, swapped := range []bool{false, true} {
			changed := filled()
			left := changed.Copy()
			if swapped {
				changed, left = left, changed
			}
			change(changed)
			same(t, left, filled())
			put(t, left, 0, "ef")
			put(t, left, 1, "gh")
			same(t, left, want)
			same(t, changed, alone)
		}
	}
}

// cell is a byte of a model's file.
type cell struct {
	b    byte
	safe bool
}

// model is a disk in the chapter's words: byte by byte, and unit by unit.
type model struct {
	size  int
	files [2][]cell
	armed bool
	units int
	down  bool
}

// unit does one, if there is power for it.
func (m *model) unit() bool {
	if !m.armed {
		return true
	}
	if m.units == 0 {
		m.down = true
		return false
	}
	m.units--
	return true
}

func (m *model) left() int {
	n := m.size
	for _, f := range m.files {
		for range f {
			n--
		}
	}
	return n
}

func (m *model) append(f int, b []byte) api.Errno {
	switch {
	case f != 0 && f != 1:
		return api.ErrRange
	case m.down:
		return api.ErrDown
	case len(b) > m.left():
		return api.ErrFull
	}
	for _, x := range b {
		if !m.unit() {
			return api.ErrDown
		}
		m.files[f] = append(m.files[f], cell{b: x})
	}
	return api.OK
}

func (m *model) sync(f int) api.Errno {
	switch {
	case f != 0 && f != 1:
		return api.ErrRange
	case m.down || !m.unit():
		return api.ErrDown
	}
	for n := range m.files[f] {
		m.files[f][n].safe = true
	}
	return api.OK
}

func (m *model) trim(f, n int) api.Errno {
	switch {
	case f != 0 && f != 1:
		return api.ErrRange
	case m.down:
		return api.ErrDown
	case n < 0 || n > len(m.files[f]):
		return api.ErrRange
	case !m.unit():
		return api.ErrDown
	}
	m.files[f] = m.files[f][:n:n]
	return api.OK
}

func (m *model) arm(units int) {
	m.armed, m.units = true, units
	if units < 0 {
		m.units = 0
	}
}

func (m *model) crash(k keep) {
	for f, was := range m.files {
		var left []cell
		for _, x := range was {
			if x.safe {
				left = append(left, x)
			} else if k[f] > 0 {
				k[f]--
				left = append(left, cell{b: x.b, safe: true})
			}
		}
		m.files[f] = left
	}
	m.armed, m.down = false, false
}

// copied is another model, the same.
func (m *model) copied() *model {
	c := *m
	for f := range c.files {
		c.files[f] = append([]cell(nil), m.files[f]...)
	}
	return &c
}

// against tells whether a disk tells what its model does.
func (m *model) against(t testing.TB, d *disk.Disk) {
	t.Helper()
	if d.Size() != m.size || d.Left() != m.left() || d.Down() != m.down {
		t.Fatal(d.Size(), m.size, d.Left(), m.left(), d.Down(), m.down)
	}
	for f, cells := range m.files {
		var want []byte
		safe := 0
		for _, x := range cells {
			want = append(want, x.b)
			if x.safe {
				safe++
			}
		}
		if got := d.Read(f); !bytes.Equal(got, want) || d.Safe(f) != safe {
			t.Fatalf("file %d: %x %d, not %x %d", f, got, d.Safe(f), want, safe)
		}
	}
}

// random picks of some numbers, the edges among them, one.
func random(r *rand.Rand, top int) int {
	switch r.Intn(12) {
	case 0:
		return []int{math.MinInt, -top, -1, top + 1, math.MaxInt}[r.Intn(5)]
	case 1:
		return top
	}
	return r.Intn(top + 1)
}

// file picks a file, and now and then none.
func file(r *rand.Rand) int {
	if r.Intn(30) == 0 {
		return nofiles()[r.Intn(len(nofiles()))]
	}
	return r.Intn(2)
}

// step does one thing to a disk and its model.
func step(t testing.TB, r *rand.Rand, d *disk.Disk, m *model) {
	t.Helper()
	f := file(r)
	has := 0
	if f == 0 || f == 1 {
		has = len(m.files[f])
	}
	switch r.Intn(16) {
	case 0:
		units := random(r, 40)
		d.Arm(units)
		m.arm(units)
	case 1, 2:
		k := keep{random(r, 20), random(r, 20)}
		d.Crash(k)
		m.crash(k)
	case 3, 4:
		n := random(r, has)
		is(t, d.Trim(f, n), m.trim(f, n))
	case 5, 6, 7:
		is(t, d.Sync(f), m.sync(f))
	case 8:
		b := make([]byte, r.Intn(m.size+2))
		r.Read(b)
		is(t, d.Append(f, b), m.append(f, b))
	default:
		b := make([]byte, r.Intn(20))
		r.Read(b)
		is(t, d.Append(f, b), m.append(f, b))
	}
}

// holdCopy does things to a disk and a copy of it by turns, each beside a model of its own.
func holdCopy(t testing.TB, r *rand.Rand, d *disk.Disk, m *model) {
	t.Helper()
	c, mc := d.Copy(), m.copied()
	for range 5 {
		step(t, r, c, mc)
		step(t, r, d, m)
		mc.against(t, c)
		m.against(t, d)
	}
}

// P13.1, P13.2 and P13.3: anything done, in any order, against the chapter's words; a copy goes on as its disk would.
func TestAgainstTheChapter(t *testing.T) {
	r := rand.New(rand.NewSource(13))
	for range 300 {
		size := least + r.Intn(200)
		d, _ := disk.New(size)
		m := &model{size: size}
		for range 60 {
			step(t, r, d, m)
			m.against(t, d)
			if r.Intn(10) == 0 {
				holdCopy(t, r, d, m)
			}
		}
		if t.Failed() {
			return
		}
	}
}

// P1 and P13.1 to P13.3: any row of calls, against the chapter's words.
func FuzzDisk(f *testing.F) {
	f.Add([]byte{0, 2, 4, 3, 0, 1, 20})
	f.Add([]byte{4, 200, 2, 0, 5, 200, 1, 3, 1, 3, 3, 100, 0, 0, 4, 9, 1, 255})
	f.Fuzz(func(t *testing.T, b []byte) {
		d := fresh(t)
		m := &model{size: least}
		for len(b) > 1 {
			call, n := b[0], int(int8(b[1]))
			file := int(call>>3)%4 - 1
			b = b[2:]
			switch call % 7 {
			case 0:
				d.Arm(n)
				m.arm(n)
			case 1:
				d.Crash(keep{n, -n})
				m.crash(keep{n, -n})
			case 2:
				is(t, d.Sync(file), m.sync(file))
			case 3:
				is(t, d.Trim(file, n), m.trim(file, n))
			case 4:
				is(t, d.Append(file, b), m.append(file, b))
			case 5:
				long := bytes.Repeat([]byte{call}, 8*max(n, 0))
				is(t, d.Append(file, long), m.append(file, long))
			case 6:
				d, m = d.Copy(), m.copied()
			}
			m.against(t, d)
		}
	})
}

// roomy is bytes with spare room behind them.
func roomy(text string) []byte {
	b := append([]byte(text), strings.Repeat("-", 64)...)
	return b[:len(text)]
}

// spoil overwrites bytes, and their spare room.
func spoil(b []byte) {
	for n := range b[:cap(b)] {
		b[:cap(b)][n] = '!'
	}
}

// P13.2 and the rule of memory: what is appended is neither changed nor kept, its spare room neither.
func TestMemoryOfWhatIsHandedIn(t *testing.T) {
	for _, units := range []int{2, 100} {
		d := fresh(t)
		d.Arm(units)
		b := roomy("abcd")
		whole := bytes.Clone(b[:cap(b)])
		d.Append(0, b)
		d.Append(0, []byte("ef"))
		d.Append(1, b)
		if !bytes.Equal(b[:cap(b)], whole) {
			t.Errorf("%q", b[:cap(b)])
		}
		was := [2]string{string(d.Read(0)), string(d.Read(1))}
		spoil(b)
		for f, text := range was {
			holds(t, d, f, text, 0)
		}
	}
}

// P13.1 and the rule of memory: what is told is new, its spare room too.
func TestMemoryOfWhatIsTold(t *testing.T) {
	d := fresh(t)
	long := strings.Repeat("0123456789", 50)
	put(t, d, 0, long)
	is(t, d.Trim(0, 400), api.OK)
	put(t, d, 1, "")
	for range 3 {
		for f, text := range []string{long[:400], ""} {
			first, second := d.Read(f), d.Read(f)
			c := d.Copy()
			spoil(first)
			_ = append(first, "more"...)
			if string(second) != text || string(c.Read(f)) != text {
				t.Error("two answers share")
			}
			holds(t, d, f, text, 0)
			put(t, d, f, "x")
			if string(second) != text {
				t.Error("an answer changes")
			}
			is(t, d.Trim(f, len(text)), api.OK)
		}
	}
}

// P13.2: a disk's own bytes are appended like any others.
func TestAppendWhatWasRead(t *testing.T) {
	d := fresh(t)
	put(t, d, 0, "ab")
	for range 3 {
		is(t, d.Append(0, d.Read(0)), api.OK)
	}
	is(t, d.Append(1, d.Read(0)[14:]), api.OK)
	holds(t, d, 0, strings.Repeat("ab", 8), 0)
	holds(t, d, 1, "ab", 0)
}

// P1: no call panics, at any numbers, whether the disk is up, armed or down.
func TestNoPanic(t *testing.T) {
	numbers := append(nofiles(), 0, 1, least, most)
	for _, units := range numbers {
		d := fresh(t)
		d.Arm(units)
		for _, f := range numbers {
			for _, n := range numbers {
				d.Trim(f, n)
				d.Append(f, []byte{1})
				d.Sync(f)
				d.Read(f)
				d.Safe(f)
				c := d.Copy()
				c.Crash(keep{f, n})
				c.Arm(n)
			}
		}
	}
}

// P1, P13.1 and P13.2: the greatest disk, filled and emptied again and again, in short time.
func TestGreatest(t *testing.T) {
	d, _ := disk.New(most)
	b := make([]byte, 1<<10)
	for range 4 {
		for n := range most / len(b) {
			is(t, d.Append(n%2, b), api.OK)
		}
		is(t, d.Append(0, []byte{1}), api.ErrFull)
		if d.Left() != 0 {
			t.Error(d.Left())
		}
		is(t, d.Sync(0), api.OK)
		d.Crash(keep{0, most})
		if d.Left() != 0 || d.Safe(0)+d.Safe(1) != most {
			t.Error(d.Left(), d.Safe(0), d.Safe(1))
		}
		is(t, d.Trim(0, 0), api.OK)
		is(t, d.Trim(1, 0), api.OK)
	}
}
