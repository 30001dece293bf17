package lock

import (
	"cmp"
	"slices"
	"strings"

	"moothill/cmd"
)

// done is the place of a session that the row of a search had, and has no more.
const done = -1

// search goes through who waits for whom, each session once.
type search struct {
	waits map[cmd.Session]map[cmd.Session]bool
	// The sessions that were come to, and may still be come to again from one that was come to later.
	row    []cmd.Session
	places map[cmd.Session]int
	stuck  []cmd.Session
}

// Stuck are the sessions that wait for themselves, step by step.
func (b *Book) Stuck() []cmd.Session {
	x := search{waits: b.waits(), places: map[cmd.Session]int{}}
	for s := range x.waits {
		if _, known := x.places[s]; !known {
			x.from(s)
		}
	}
	slices.SortFunc(x.stuck, compareSessions)
	return x.stuck
}

// waits are the sessions for which each one waits.
func (b *Book) waits() map[cmd.Session]map[cmd.Session]bool {
	w := map[cmd.Session]map[cmd.Session]bool{}
	for _, e := range b.entries {
		for _, other := range b.entries {
			if !e.behind(other) {
				continue
			}
			if w[e.Session] == nil {
				w[e.Session] = map[cmd.Session]bool{}
			}
			w[e.Session][other.Session] = true
		}
	}
	return w
}

// from goes on from a session; it tells the first place of the row to which one comes from there.
func (x *search) from(s cmd.Session) int {
	at := len(x.row)
	x.row = append(x.row, s)
	x.places[s] = at
	first := at
	for other := range x.waits[s] {
		place, known := x.places[other]
		if !known {
			place = x.from(other)
		}
		if place != done {
			first = min(first, place)
		}
	}
	if first == at {
		x.cut(at)
	}
	return first
}

// cut takes off the row what all waits for one another, or is a session alone.
func (x *search) cut(at int) {
	ring := x.row[at:]
	x.row = x.row[:at]
	for _, s := range ring {
		x.places[s] = done
		if len(ring) > 1 || x.waits[s][s] {
			s.Foot = strings.Clone(s.Foot)
			x.stuck = append(x.stuck, s)
		}
	}
}

// compareSessions is the order of sessions.
func compareSessions(a, b cmd.Session) int {
	return cmp.Or(cmp.Compare(a.Num, b.Num), strings.Compare(a.Foot, b.Foot))
}
