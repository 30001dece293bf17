package clock

import (
	"slices"
	"testing"

	"moothill/api"
	"moothill/mark"
)

// P20.1 and P20.2: the time stays at its greatest, 2^40, which nobody can tick up to. (Hence a clock from within.)
func TestLastTime(t *testing.T) {
	const last = 1 << 40
	a, b := mark.ID{Replica: 1, Slot: 2}, mark.ID{Replica: 3, Slot: 4}
	c := New()
	c.Watch(a)
	c.now = last - 2
	c.Watch(b)
	for _, want := range []int{last - 1, last, last, last} {
		if got := c.Tick(); got != want || c.Now() != want {
			t.Error(got, c.Now(), want)
		}
	}
	for wait, want := range map[int][]mark.ID{
		0: {a, b}, 2: {a, b}, 3: {a}, last - 1: {a}, api.MaxTime: {a}, last + 1: nil,
	} {
		if got := c.Ripe(wait); !slices.Equal(got, want) {
			t.Error(wait, got)
		}
	}
	c.Again(a)
	c.Tick()
	if got := c.Ripe(1); !slices.Equal(got, []mark.ID{b}) {
		t.Error(got)
	}
}
