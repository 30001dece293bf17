package table

import (
	"cmp"
	"slices"

	"moothill/cmd"
	"moothill/lease"
	"moothill/lock"
	"moothill/path"
)

// Change is what a command did to locks.
type Change struct {
	Answer  lease.Answer
	Granted []lock.Entry
	Gone    []lock.Entry
}

// Change applies a command, and tells what that did to locks.
func (t *Table) Change(c cmd.Cmd) Change {
	ahead := t.locks.List()
	granted := set(t.those(t.locks.Granted))
	a := t.Apply(c)
	behind := set(t.locks.List())
	return Change{
		Answer: a,
		Granted: t.those(func(e lock.Entry) bool {
			return !granted[e] && t.locks.Granted(e)
		}),
		Gone: slices.DeleteFunc(ahead, func(e lock.Entry) bool {
			return behind[e]
		}),
	}
}

// set are the entries of a list.
func set(l []lock.Entry) map[lock.Entry]bool {
	in := map[lock.Entry]bool{}
	for _, e := range l {
		in[e] = true
	}
	return in
}

// those are the entries of which something holds, in their order.
func (t *Table) those(holds func(lock.Entry) bool) []lock.Entry {
	return slices.DeleteFunc(t.locks.List(), func(e lock.Entry) bool {
		return !holds(e)
	})
}

// Holders are the entries that are granted, and whose paths overlap one.
func (t *Table) Holders(p string) []lock.Entry {
	return t.those(func(e lock.Entry) bool {
		return path.Overlap(e.Path, p) && t.locks.Granted(e)
	})
}

// Waiters are the entries that wait, and whose paths overlap one.
func (t *Table) Waiters(p string) []lock.Entry {
	l := t.those(func(e lock.Entry) bool {
		return path.Overlap(e.Path, p) && !t.locks.Granted(e)
	})
	slices.SortStableFunc(l, func(a, b lock.Entry) int {
		return cmp.Compare(a.Stamp, b.Stamp)
	})
	return l
}

// Held are a session's entries that are granted.
func (t *Table) Held(s cmd.Session) []lock.Entry {
	return t.those(func(e lock.Entry) bool {
		return e.Session == s && t.locks.Granted(e)
	})
}

// Reach is, of each session that is open, how many entries it has, and how many of them are granted.
func (t *Table) Reach() map[cmd.Session][2]int {
	reach := map[cmd.Session][2]int{}
	for _, s := range t.sessions.Sessions() {
		if t.sessions.Info(s).Open {
			reach[s] = [2]int{}
		}
	}
	for _, e := range t.locks.List() {
		n, open := reach[e.Session]
		if !open {
			continue
		}
		n[0]++
		if t.locks.Granted(e) {
			n[1]++
		}
		reach[e.Session] = n
	}
	return reach
}
