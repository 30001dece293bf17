package crew_test

import (
	"math"
	"slices"
	"testing"

	"moothill/crew"
)

// byHand is a set of some replicas, each of which is one, bit by bit.
func byHand(l ...int) crew.Set {
	var s crew.Set
	for _, r := range l {
		s |= crew.Set([]byte{1, 2, 4, 8, 16, 32, 64}[r])
	}
	return s
}

// sets gives all sets, with the bit 7 that says nothing, and without.
func sets() []crew.Set {
	var l []crew.Set
	for b := range 256 {
		l = append(l, crew.Set(b))
	}
	return l
}

// model has the replicas that a set is to have, by its remainders.
func model(s crew.Set) map[int]bool {
	m := map[int]bool{}
	for r, rest := 0, int(s); r < 7; r, rest = r+1, rest/2 {
		if rest%2 == 1 {
			m[r] = true
		}
	}
	return m
}

// outside gives numbers of no replica.
func outside() []int {
	return []int{-1, -2, -6, -7, -8, -64, -256, math.MinInt + 1, math.MinInt, 7, 8, 9, 15, 16, 31, 32, 63, 64, 65, 128, 256, 1 << 31, 1 << 32, 1<<32 + 1, math.MaxInt - 1, math.MaxInt}
}

// numbers gives those of replicas, and those of none.
func numbers() []int {
	return append([]int{0, 1, 2, 3, 4, 5, 6}, outside()...)
}

// P5.1
func TestOf(t *testing.T) {
	for _, x := range []struct {
		l    []int
		want crew.Set
	}{
		{nil, 0},
		{[]int{}, 0},
		{[]int{0}, 1},
		{[]int{1}, 2},
		{[]int{6}, 64},
		{[]int{0, 2, 5}, 37},
		{[]int{5, 0, 2}, 37},
		{[]int{2, 2, 2}, 4},
		{[]int{3, 1, 3, 1, 3}, 10},
		{[]int{0, 1, 2, 3, 4, 5, 6}, 127},
		{[]int{6, 5, 4, 3, 2, 1, 0}, 127},
		{[]int{7}, 0},
		{[]int{-1}, 0},
		{[]int{8}, 0},
		{[]int{-1, 0, 7, 6, 8}, 65},
		{[]int{math.MinInt, 4, math.MaxInt}, 16},
		{outside(), 0},
		{numbers(), 127},
	} {
		if s := crew.Of(x.l...); s != x.want {
			t.Error(x.l, s)
		}
	}
	if s := crew.Of(); s != 0 {
		t.Error(s)
	}
	if s := crew.Of(slices.Repeat([]int{6, 9, 1}, 10000)...); s != 66 {
		t.Error(s)
	}
}

// P5.1
func TestAll(t *testing.T) {
	for _, x := range []struct {
		n    int
		want crew.Set
	}{
		{0, 0}, {1, 1}, {2, 3}, {3, 7}, {4, 15}, {5, 31}, {6, 63}, {7, 127},
		{8, 127}, {9, 127}, {64, 127}, {1 << 32, 127}, {math.MaxInt, 127},
		{-1, 0}, {-7, 0}, {math.MinInt, 0},
	} {
		if s := crew.All(x.n); s != x.want {
			t.Error(x.n, s)
		}
	}
}

// P5.1: of each set and each number; bit 7 is left as it is.
func TestWithAndWithout(t *testing.T) {
	for _, s := range sets() {
		for r := range 7 {
			with, without := s, s
			if model(s)[r] {
				without -= byHand(r)
			} else {
				with += byHand(r)
			}
			if w := s.With(r); w != with || !w.Has(r) {
				t.Error("with", s, r, w)
			}
			if w := s.Without(r); w != without || w.Has(r) {
				t.Error("without", s, r, w)
			}
		}
		for _, r := range outside() {
			if s.With(r) != s || s.Without(r) != s {
				t.Error(s, r, s.With(r), s.Without(r))
			}
		}
	}
}

// P5.1: of each set and each number; no number is in it for the sake of bit 7.
func TestHas(t *testing.T) {
	for _, s := range sets() {
		m := model(s)
		for _, r := range numbers() {
			if s.Has(r) != m[r] {
				t.Error(s, r)
			}
		}
	}
}

// P5.1: of each set; bit 7 is neither counted nor listed.
func TestCountAndList(t *testing.T) {
	for _, x := range []struct {
		s    crew.Set
		want []int
	}{
		{0, nil}, {1, []int{0}}, {64, []int{6}}, {128, nil}, {129, []int{0}}, {37, []int{0, 2, 5}},
		{127, []int{0, 1, 2, 3, 4, 5, 6}}, {255, []int{0, 1, 2, 3, 4, 5, 6}},
	} {
		if l := x.s.List(); !slices.Equal(l, x.want) || x.s.Count() != len(x.want) {
			t.Error(x.s, l, x.s.Count())
		}
	}
	for _, s := range sets() {
		m := model(s)
		l := s.List()
		if len(l) != len(m) || s.Count() != len(m) || !slices.IsSorted(l) {
			t.Error(s, l, s.Count())
		}
		for _, r := range l {
			if !m[r] {
				t.Error(s, l)
			}
		}
		if crew.Of(l...) != byHand(l...) || crew.Of(l...) != s%128 {
			t.Error(s, l, crew.Of(l...))
		}
	}
}

// P5.1: of each two sets; what they meet in hasn't got bit 7.
func TestMeet(t *testing.T) {
	for _, s := range sets() {
		m := model(s)
		for _, o := range sets() {
			var both []int
			for r := range model(o) {
				if m[r] {
					both = append(both, r)
				}
			}
			if got := s.Meet(o); got != byHand(both...) {
				t.Fatal(s, o, got)
			}
		}
	}
	if s := crew.Set(255).Meet(255); s != 127 {
		t.Error(s)
	}
	if s := crew.Set(128).Meet(128); s != 0 {
		t.Error(s)
	}
}

// P5.1: a set is a value: what is told of it doesn't change it.
func TestSetsStay(t *testing.T) {
	for _, s := range sets() {
		was := byte(s)
		s.With(3)
		s.Without(3)
		s.Meet(8)
		s.Count()
		s.List()
		if byte(s) != was {
			t.Error(was, s)
		}
	}
}

// P5.2
func TestHowManyAreEnough(t *testing.T) {
	right := map[int][3]int{3: {1, 2, 2}, 5: {2, 3, 4}, 7: {3, 4, 6}}
	l := append(numbers(), 9, 10, 11, 13, -3, -5, 257, 259, 1<<32+3, 1<<32+5, math.MinInt+3)
	for n := -300; n <= 300; n++ {
		l = append(l, n)
	}
	for _, n := range l {
		want, ok := right[n]
		if crew.Right(n) != ok {
			t.Error(n, crew.Right(n))
		}
		if got := [3]int{crew.F(n), crew.Majority(n), crew.Fast(n)}; got != want {
			t.Error(n, got)
		}
	}
}

// ofCrew gives all sets of a crew of n with at least so many.
func ofCrew(n, least int) []crew.Set {
	var l []crew.Set
	for b := range 1 << n {
		if s := crew.Set(b); s.Count() >= least {
			l = append(l, s)
		}
	}
	return l
}

// P5.2: of each crew: two majorities have a replica in common, and what they have of fast quorums.
func TestQuorumsMeet(t *testing.T) {
	for _, n := range []int{3, 5, 7} {
		majorities, fast := ofCrew(n, crew.Majority(n)), ofCrew(n, crew.Fast(n))
		if len(majorities) != 1<<(n-1) || len(fast) < n+1 {
			t.Fatal(n, len(majorities), len(fast))
		}
		for _, m := range majorities {
			for _, o := range majorities {
				if m.Meet(o).Count() == 0 {
					t.Fatal(n, m, o)
				}
			}
			for _, q := range fast {
				isMet(t, n, m, q)
			}
		}
	}
}

// isMet tells that a majority has enough of a fast quorum, without each replica that just the latter has, too.
func isMet(t *testing.T, n int, m, q crew.Set) {
	t.Helper()
	if m.Meet(q).Count() < crew.F(n) {
		t.Fatal(n, m, q)
	}
	for _, r := range q.List() {
		if !m.Has(r) && m.Meet(q.Without(r)).Count() < crew.F(n) {
			t.Fatal(n, m, q, r)
		}
	}
}

// P5.2: a majority less one may miss another one, and a majority has fewer than F of some fast quorum less one.
func TestFewerAreNotEnough(t *testing.T) {
	for _, n := range []int{3, 5, 7} {
		majority, all := crew.All(crew.Majority(n)), crew.All(n)
		if fewer := majority.Without(0); all&^fewer != byHand(0)|all&^majority || (all&^fewer).Count() != crew.Majority(n) {
			t.Error(n, fewer)
		}
		fewer := all.Without(0).Without(1)
		if fewer.Count() != crew.Fast(n)-1 || majority.Meet(fewer).Count() != crew.F(n)-1 {
			t.Error(n, fewer)
		}
	}
}

// The rule of memory: what is handed in stays as it is, its spare room too; what is told is new, spare room too.
func TestMemory(t *testing.T) {
	in := []int{5, 9, 1, 1, 70, 71}
	crew.Of(in[:4]...)
	if !slices.Equal(in, []int{5, 9, 1, 1, 70, 71}) {
		t.Error("changed", in)
	}
	for _, s := range sets() {
		a, b := s.List(), s.List()
		want := slices.Clone(b)
		for i := range a[:cap(a)] {
			a[:cap(a)][i] = -9
		}
		if !slices.Equal(b, want) || !slices.Equal(s.List(), want) {
			t.Error(s, a, b)
		}
		_ = append(a[:0], make([]int, cap(a))...)
		if !slices.Equal(b, want) {
			t.Error(s, a, b)
		}
	}
}

// P1: no call panics, whatever it is given.
func TestNoPanic(t *testing.T) {
	for _, n := range numbers() {
		crew.All(n)
		crew.Right(n)
		crew.F(n)
		crew.Majority(n)
		crew.Fast(n)
		crew.Of(n, n)
		for _, s := range sets() {
			s.With(n)
			s.Without(n)
			s.Has(n)
		}
	}
}
