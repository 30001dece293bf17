package net_test

import (
	"bytes"
	"math"
	"math/rand"
	"strings"
	"testing"

	"moothill/api"
	"moothill/crew"
	"moothill/net"
)

// numbers gives numbers that are edges of something, and extreme ones.
func numbers() []int {
	return []int{-8, -7, -1, 0, 1, 2, 3, 6, 7, 8, 9, 255, 256, 511, 512, 513, 4095, 4096, 4097,
		1 << 32, 1<<32 + 1, math.MinInt, math.MinInt + 1, math.MaxInt, math.MaxInt - 1}
}

// frame is a frame with a text.
func frame(from, to int, text string) net.Frame {
	return net.Frame{From: from, To: to, Data: []byte(text)}
}

// fresh is a net with some frames.
func fresh(t testing.TB, limit int, l ...net.Frame) *net.Net {
	t.Helper()
	n, e := net.New(limit)
	if e != api.OK || n == nil {
		t.Fatal(n, e)
	}
	for _, f := range l {
		is(t, n.Send(f), api.OK)
	}
	return n
}

// is tells whether a call answered what it should.
func is(t testing.TB, got, want api.Errno) {
	t.Helper()
	if got != want {
		t.Errorf("%d, not %d", got, want)
	}
}

// like tells whether two frames are the same.
func like(a, b net.Frame) bool {
	return a.From == b.From && a.To == b.To && bytes.Equal(a.Data, b.Data)
}

// told tells whether a frame was told as it should be.
func told(t testing.TB, got net.Frame, e api.Errno, want net.Frame, wantE api.Errno) {
	t.Helper()
	is(t, e, wantE)
	if !like(got, want) {
		t.Errorf("%v, not %v", got, want)
	}
	if wantE != api.OK && got.Data != nil {
		t.Error("data beside an error")
	}
}

// holds tells whether a net has just these frames, in this order.
func holds(t testing.TB, n *net.Net, want ...net.Frame) {
	t.Helper()
	if n.Count() != len(want) {
		t.Errorf("%d frames, not %d", n.Count(), len(want))
	}
	l := n.List()
	if len(l) != len(want) {
		t.Fatalf("%v, not %v", l, want)
	}
	for i, f := range l {
		if !like(f, want[i]) {
			t.Errorf("at %d: %v, not %v", i, f, want[i])
		}
	}
}

// first tells whether the first frame among some replicas is where it should be.
func first(t testing.TB, n *net.Net, up crew.Set, want int, any bool) {
	t.Helper()
	if i, ok := n.First(up); i != want || ok != any {
		t.Errorf("among %b: %d, %t, not %d, %t", up, i, ok, want, any)
	}
}

// P19.1 and P19.2: the chapter's example.
func TestExample(t *testing.T) {
	a, b := frame(0, 1, "one"), frame(1, 2, "two")
	n := fresh(t, 4, a, b)
	is(t, n.Twice(0), api.OK)
	holds(t, n, a, b, a)
	f, e := n.Take(1)
	told(t, f, e, b, api.OK)
	holds(t, n, a, a)
}

// P19.1: limits from 1 to 2^12, and no others.
func TestNew(t *testing.T) {
	for _, limit := range numbers() {
		n, e := net.New(limit)
		if limit < 1 || limit > 1<<12 {
			is(t, e, api.ErrRange)
			if n != nil {
				t.Error("a net beside an error")
			}
			continue
		}
		is(t, e, api.OK)
		holds(t, n)
	}
}

// P19.1: as many frames as the limit, and no more; a room that is left again is there again.
func TestLimit(t *testing.T) {
	f := frame(3, 4, "abc")
	for _, limit := range []int{1, 2, 3, 7, 1 << 12} {
		n := fresh(t, limit)
		for range limit {
			is(t, n.Send(f), api.OK)
		}
		for range 2 {
			is(t, n.Send(f), api.ErrFull)
			is(t, n.Twice(0), api.ErrFull)
			is(t, n.Twice(limit), api.ErrNone)
			if n.Count() != limit || len(n.List()) != limit {
				t.Error(n.Count())
			}
			is(t, n.Drop(limit-1), api.OK)
			if n.Count() != limit-1 {
				t.Error(n.Count())
			}
			is(t, n.Send(f), api.OK)
		}
	}
}

// P19.1: replicas from 0 to 6, whichever two, the same one too.
func TestSendReplicas(t *testing.T) {
	for _, from := range numbers() {
		for _, to := range numbers() {
			n := fresh(t, 2)
			f := frame(from, to, "x")
			if from < 0 || from > 6 || to < 0 || to > 6 {
				is(t, n.Send(f), api.ErrRange)
				holds(t, n)
				continue
			}
			is(t, n.Send(f), api.OK)
			holds(t, n, f)
		}
	}
}

// P19.1: data of up to 2^9 bytes, none too.
func TestSendSizes(t *testing.T) {
	for _, size := range []int{0, 1, 2, 511, 512, 513, 514, 1 << 16} {
		n := fresh(t, 2)
		f := frame(6, 0, strings.Repeat("d", size))
		if size > 512 {
			is(t, n.Send(f), api.ErrSize)
			holds(t, n)
			continue
		}
		is(t, n.Send(f), api.OK)
		holds(t, n, f)
	}
	n := fresh(t, 1)
	is(t, n.Send(net.Frame{}), api.OK)
	holds(t, n, frame(0, 0, ""))
}

// P19.1: ErrRange ahead of ErrSize, and that ahead of ErrFull.
func TestErrorsInOrder(t *testing.T) {
	long := strings.Repeat("d", 513)
	a := frame(1, 2, "a")
	full, empty := fresh(t, 1, a), fresh(t, 1)
	for _, n := range []*net.Net{full, empty} {
		is(t, n.Send(frame(7, 0, long)), api.ErrRange)
		is(t, n.Send(frame(0, -1, long)), api.ErrRange)
		is(t, n.Send(frame(7, 7, "")), api.ErrRange)
		is(t, n.Send(frame(0, 0, long)), api.ErrSize)
	}
	is(t, full.Send(frame(0, 0, "")), api.ErrFull)
	is(t, full.Twice(1), api.ErrNone)
	is(t, full.Twice(0), api.ErrFull)
	holds(t, full, a)
	holds(t, empty)
}

// P19.1: frames stand in the order in which they were sent.
func TestOrder(t *testing.T) {
	var want []net.Frame
	n := fresh(t, 50)
	for i := range 50 {
		f := frame(i%7, i/7%7, strings.Repeat("o", i))
		want = append(want, f)
		is(t, n.Send(f), api.OK)
		holds(t, n, want...)
	}
}

// three is three frames, no two of them the same.
func three() []net.Frame {
	return []net.Frame{frame(0, 1, "first"), frame(1, 2, "second"), frame(2, 0, "third")}
}

// without is frames but for the one at i.
func without(l []net.Frame, i int) []net.Frame {
	var left []net.Frame
	for at, f := range l {
		if at != i {
			left = append(left, f)
		}
	}
	return left
}

// P19.2: a frame that is taken, dropped or spoilt is there no more, and the others stay in their order.
func TestOutOfTheNet(t *testing.T) {
	l := three()
	for i := range l {
		n := fresh(t, 3, l...)
		f, e := n.Take(i)
		told(t, f, e, l[i], api.OK)
		holds(t, n, without(l, i)...)

		n = fresh(t, 3, l...)
		is(t, n.Drop(i), api.OK)
		holds(t, n, without(l, i)...)

		n = fresh(t, 3, l...)
		f, e = n.Spoil(i, -1)
		told(t, f, e, l[i], api.OK)
		holds(t, n, without(l, i)...)
	}
}

// P19.2: a frame that is doubled stays where it is, and is the last one, too.
func TestTwice(t *testing.T) {
	l := three()
	for i := range l {
		n := fresh(t, 4, l...)
		is(t, n.Twice(i), api.OK)
		holds(t, n, append(three(), l[i])...)
		is(t, n.Twice(i), api.ErrFull)
		is(t, n.Drop(i), api.OK)
		holds(t, n, append(without(l, i), l[i])...)
		is(t, n.Twice(2), api.OK)
		holds(t, n, append(without(l, i), l[i], l[i])...)
	}
}

// P19.2: no place is below 0, or at the count, or past it; nothing is changed.
func TestNoPlace(t *testing.T) {
	for count := range 4 {
		l := three()[:count]
		n := fresh(t, 4, l...)
		for _, i := range numbers() {
			if i >= 0 && i < count {
				continue
			}
			f, e := n.Take(i)
			told(t, f, e, net.Frame{}, api.ErrNone)
			is(t, n.Drop(i), api.ErrNone)
			is(t, n.Twice(i), api.ErrNone)
			for _, bit := range numbers() {
				f, e = n.Spoil(i, bit)
				told(t, f, e, net.Frame{}, api.ErrNone)
			}
			holds(t, n, l...)
		}
	}
}

// P19.2: each bit is turned in its byte, from the least one on, and no other one is.
func TestSpoil(t *testing.T) {
	text := "\x00\xff\x55"
	for bit := range 24 {
		n := fresh(t, 2, frame(0, 1, "a"), frame(4, 5, text))
		want := []byte(text)
		if b := byte(1 << (bit % 8)); want[bit/8]&b != 0 {
			want[bit/8] -= b
		} else {
			want[bit/8] += b
		}
		f, e := n.Spoil(1, bit)
		told(t, f, e, net.Frame{From: 4, To: 5, Data: want}, api.OK)
		holds(t, n, frame(0, 1, "a"))
	}
}

// P19.2: a bit of a byte that the frame hasn't turns nothing.
func TestSpoilNothing(t *testing.T) {
	for _, size := range []int{0, 1, 2, 512} {
		want := frame(1, 1, strings.Repeat("s", size))
		for _, bit := range append(numbers(), 8*size, 8*size+7) {
			if bit >= 0 && bit < 8*size {
				continue
			}
			n := fresh(t, 1, want)
			f, e := n.Spoil(0, bit)
			told(t, f, e, want, api.OK)
			holds(t, n)
		}
	}
	n := fresh(t, 1, frame(0, 0, strings.Repeat("\x00", 512)))
	f, e := n.Spoil(0, 4095)
	told(t, f, e, frame(0, 0, strings.Repeat("\x00", 511)+"\x80"), api.OK)
}

// P19.2: of a frame that was doubled one is spoilt, and the other one isn't.
func TestSpoilOne(t *testing.T) {
	a := frame(0, 1, "aaa")
	for i := range 2 {
		n := fresh(t, 2, a)
		is(t, n.Twice(0), api.OK)
		f, e := n.Spoil(i, 8)
		told(t, f, e, frame(0, 1, "a`a"), api.OK)
		holds(t, n, a)
	}
}

// P19.3: the first frame from one in a set to one in it, for each set, with each bit 7.
func TestFirst(t *testing.T) {
	l := []net.Frame{frame(0, 1, ""), frame(2, 2, "a"), frame(1, 2, "b"), frame(6, 5, "c"), frame(2, 0, "d"), frame(1, 0, "e")}
	n := fresh(t, 10, l...)
	for bits := range 256 {
		in := func(r int) bool { return bits>>r&1 == 1 }
		want, any := 0, false
		for i := len(l) - 1; i >= 0; i-- {
			if in(l[i].From) && in(l[i].To) {
				want, any = i, true
			}
		}
		first(t, n, crew.Set(bits), want, any)
	}
	holds(t, n, l...)
}

// P19.3: some sets by hand; both ends of a frame must be in, and what is no more there isn't told.
func TestFirstByHand(t *testing.T) {
	n := fresh(t, 10)
	first(t, n, crew.All(7), 0, false)
	is(t, n.Send(frame(0, 1, "a")), api.OK)
	is(t, n.Send(frame(1, 2, "b")), api.OK)
	first(t, n, crew.All(7), 0, true)
	first(t, n, crew.Of(1, 2), 1, true)
	first(t, n, crew.Of(0, 2), 0, false)
	first(t, n, crew.Of(0), 0, false)
	first(t, n, crew.Of(), 0, false)
	first(t, n, crew.Set(0x80), 0, false)
	is(t, n.Drop(0), api.OK)
	first(t, n, crew.All(7), 0, true)
	first(t, n, crew.Of(0, 1), 0, false)
	is(t, n.Send(frame(0, 0, "c")), api.OK)
	first(t, n, crew.Of(0), 1, true)
}

// model is a net by the chapter's words.
type model struct {
	limit  int
	frames []net.Frame
}

// send is what Send should answer.
func (m *model) send(f net.Frame) api.Errno {
	if f.From < 0 || f.From > 6 || f.To < 0 || f.To > 6 {
		return api.ErrRange
	}
	if len(f.Data) > 512 {
		return api.ErrSize
	}
	if len(m.frames) == m.limit {
		return api.ErrFull
	}
	m.frames = append(m.frames, frame(f.From, f.To, string(f.Data)))
	return api.OK
}

// take is what Take should answer.
func (m *model) take(i int) (net.Frame, api.Errno) {
	if i < 0 || i >= len(m.frames) {
		return net.Frame{}, api.ErrNone
	}
	f := m.frames[i]
	m.frames = without(m.frames, i)
	return f, api.OK
}

// twice is what Twice should answer.
func (m *model) twice(i int) api.Errno {
	if i < 0 || i >= len(m.frames) {
		return api.ErrNone
	}
	return m.send(m.frames[i])
}

// spoil is what Spoil should answer.
func (m *model) spoil(i, bit int) (net.Frame, api.Errno) {
	f, e := m.take(i)
	for at := range 8 * len(f.Data) {
		if at == bit {
			f.Data[at/8] ^= 1 << (at % 8)
		}
	}
	return f, e
}

// against holds a net against its model.
func (m *model) against(t testing.TB, n *net.Net, up crew.Set) {
	t.Helper()
	holds(t, n, m.frames...)
	for i, f := range m.frames {
		if up.Has(f.From) && up.Has(f.To) {
			first(t, n, up, i, true)
			return
		}
	}
	first(t, n, up, 0, false)
}

// step does one thing to a net and its model.
func step(t testing.TB, n *net.Net, m *model, call, i, bit int, data []byte) {
	t.Helper()
	switch call % 6 {
	case 0, 1:
		f := net.Frame{From: i, To: bit, Data: data}
		is(t, n.Send(f), m.send(f))
	case 2:
		want, wantE := m.take(i)
		f, e := n.Take(i)
		told(t, f, e, want, wantE)
	case 3:
		_, want := m.take(i)
		is(t, n.Drop(i), want)
	case 4:
		is(t, n.Twice(i), m.twice(i))
	case 5:
		want, wantE := m.spoil(i, bit)
		f, e := n.Spoil(i, bit)
		told(t, f, e, want, wantE)
	}
}

// P19.1, P19.2 and P19.3: anything done, in any order, against the chapter's words.
func TestAgainstTheChapter(t *testing.T) {
	r := rand.New(rand.NewSource(19))
	for range 300 {
		m := &model{limit: 1 + r.Intn(12)}
		n := fresh(t, m.limit)
		for range 80 {
			data := make([]byte, r.Intn(5))
			r.Read(data)
			step(t, n, m, r.Intn(6), r.Intn(9)-1, r.Intn(9)-1, data)
			m.against(t, n, crew.Set(r.Intn(256)))
		}
		if t.Failed() {
			return
		}
	}
}

// P1 and P19.1 to P19.3: any row of calls, against the chapter's words.
func FuzzNet(f *testing.F) {
	f.Add([]byte{0, 1, 2, 4, 0, 0, 2, 1, 0}, 4)
	f.Add([]byte{0, 6, 0, 0, 7, 0, 5, 0, 9, 1, 255, 3, 3, 0, 0}, 1)
	f.Fuzz(func(t *testing.T, b []byte, limit int) {
		n, e := net.New(limit)
		if limit < 1 || limit > 1<<12 {
			is(t, e, api.ErrRange)
			return
		}
		m := &model{limit: limit}
		for len(b) > 2 {
			call, i, bit := int(b[0]), int(int8(b[1])), int(int8(b[2]))
			b = b[3:]
			step(t, n, m, call, i, bit, b)
			m.against(t, n, crew.Set(bit))
		}
	})
}

// over overwrites a frame's bytes, and their spare room.
func over(f net.Frame) {
	all := f.Data[:cap(f.Data)]
	for i := range all {
		all[i] = '!'
	}
}

// roomy is a frame whose bytes have spare room behind them.
func roomy(text string) net.Frame {
	f := frame(1, 2, text+strings.Repeat("-", 64))
	f.Data = f.Data[:len(text)]
	return f
}

// P19.1 and the rule of memory: what is sent is neither changed nor kept, its spare room neither.
func TestMemoryOfWhatIsSent(t *testing.T) {
	f := roomy("abcd")
	whole := bytes.Clone(f.Data[:cap(f.Data)])
	n := fresh(t, 4, f, f)
	is(t, n.Twice(0), api.OK)
	got, e := n.Spoil(1, 0)
	told(t, got, e, frame(1, 2, "`bcd"), api.OK)
	if !bytes.Equal(f.Data[:cap(f.Data)], whole) {
		t.Errorf("%q", f.Data[:cap(f.Data)])
	}
	over(f)
	holds(t, n, frame(1, 2, "abcd"), frame(1, 2, "abcd"))
}

// P19.1, P19.2 and the rule of memory: what is told is new, its spare room too.
func TestMemoryOfWhatIsTold(t *testing.T) {
	a, b := frame(1, 2, "abcd"), frame(3, 4, "efghi")
	n := fresh(t, 8, a, b, a)
	is(t, n.Twice(0), api.OK)
	left := []net.Frame{a, b, a, a}
	one, two := n.List(), n.List()
	for i := range one {
		over(one[i])
		one[i].From = 9
		if !like(two[i], left[i]) {
			t.Error("two answers share")
		}
	}
	_ = append(one[:1], frame(5, 5, "x"))
	holds(t, n, left...)
	for len(left) > 1 {
		f, e := n.Take(0)
		told(t, f, e, left[0], api.OK)
		over(f)
		left = left[1:]
		holds(t, n, left...)
		is(t, n.Send(b), api.OK)
		left = append(left, b)
		f, e = n.Spoil(0, 8*9)
		told(t, f, e, left[0], api.OK)
		over(f)
		left = left[1:]
		holds(t, n, left...)
	}
	for _, f := range two[2:] {
		if !like(f, a) {
			t.Error("an answer changes")
		}
	}
}

// P19.2 and the rule of memory: a frame that was taken stays as it is, whatever the net does behind it.
func TestTakenStays(t *testing.T) {
	a := frame(1, 2, "abcd")
	n := fresh(t, 3, a)
	is(t, n.Twice(0), api.OK)
	f, e := n.Take(0)
	told(t, f, e, a, api.OK)
	for range 3 {
		is(t, n.Twice(0), api.OK)
		g, e := n.Spoil(0, 3)
		told(t, g, e, frame(1, 2, "ibcd"), api.OK)
	}
	told(t, f, api.OK, a, api.OK)
}

// P19.1 to P19.3: two nets know nothing of each other.
func TestAlone(t *testing.T) {
	a, b := frame(0, 0, "a"), frame(0, 0, "b")
	one, two := fresh(t, 1, a), fresh(t, 2, b)
	is(t, two.Send(a), api.OK)
	is(t, one.Send(b), api.ErrFull)
	holds(t, one, a)
	holds(t, two, b, a)
}

// P1: no call panics, at any numbers.
func TestNoPanic(t *testing.T) {
	for _, i := range numbers() {
		for _, j := range numbers() {
			n := fresh(t, 3, frame(0, 1, "a"), frame(1, 0, ""))
			n.Send(frame(i, j, "x"))
			n.Twice(i)
			n.First(crew.Set(i))
			n.Spoil(i, j)
			n.Take(j)
			n.Drop(i)
			n.List()
			if n.Count() > 3 {
				t.Error(n.Count())
			}
		}
	}
}
