package inst_test

import (
	"bytes"
	"fmt"
	"math"
	"math/rand"
	"regexp"
	"strings"
	"testing"
	"unsafe"

	"moothill/api"
	"moothill/attr"
	"moothill/cmd"
	"moothill/inst"
	"moothill/mark"
	"moothill/wire"
)

// lastBallot is the greatest ballot there is: of the last round, and the replica 6.
const lastBallot = (1<<24-1)<<3 | 6

// home is the instance of which most of the tests' states are.
var home = mark.ID{Replica: 1, Slot: 2}

// Some commands: of greater each number and each text is the greatest one.
var (
	long    = strings.Repeat("x", 64)
	keep    = cmd.Cmd{Kind: cmd.Keep, Session: cmd.Session{Num: 7, Foot: "a"}, Request: 300, Time: 5}
	acquire = cmd.Cmd{Kind: cmd.Acquire, Session: cmd.Session{Num: 7, Foot: "a"}, Request: 9, Path: "b/c", Mode: cmd.Shared}
	greater = cmd.Cmd{Kind: cmd.Check, Session: cmd.Session{Num: math.MaxUint64, Foot: long}, Request: math.MaxUint64, Path: long, N: 1<<63 - 1}
)

// deps are attributes.
func deps(seq int, l ...int) attr.Attr {
	a := attr.Attr{Seq: seq}
	copy(a.Deps[:], l)
	return a
}

// some gives right states of each status.
func some() []inst.Inst {
	last := mark.ID{Replica: 6, Slot: 1023}
	return []inst.Inst{
		{},
		{ID: home},
		{ID: home, Bal: 10},
		{ID: last, Bal: lastBallot},
		{ID: home, Status: inst.Pre, Same: true, Cmd: keep, Attr: deps(3, 0, 2)},
		{ID: home, Status: inst.Pre, Cmd: acquire, Attr: deps(300, 5, 2, 1024)},
		{ID: home, Status: inst.Pre, Bal: 17, Same: true, Attr: deps(0, 0, 2)},
		{ID: home, Status: inst.Pre, Bal: 17, Vote: 8, Cmd: acquire, Attr: deps(1<<30, 1024, 2, 1024, 1024, 1024, 1024, 1024)},
		{ID: home, Status: inst.Accepted, Cmd: acquire, Attr: deps(1, 1, 2)},
		{ID: home, Status: inst.Accepted, Bal: 17, Vote: 17, Cmd: keep, Attr: deps(1, 1, 2)},
		{ID: home, Status: inst.Committed, Cmd: keep, Attr: deps(1, 1, 2)},
		{ID: last, Status: inst.Committed, Bal: lastBallot, Vote: lastBallot, Cmd: greater, Attr: deps(2, 0, 0, 0, 0, 0, 0, 1023)},
		{Status: inst.Committed, Bal: 300, Vote: 16},
	}
}

// isRight tells, by the chapter's words, whether a state may be.
func isRight(x inst.Inst) bool {
	if !x.ID.Right() || !x.Bal.Right() || !x.Vote.Right() || x.Vote > x.Bal {
		return false
	}
	switch x.Status {
	case 0:
		return x.Vote == 0 && !x.Same && x.Cmd == cmd.Cmd{} && x.Attr == attr.Attr{}
	case 1:
		if x.Same && x.Vote != 0 {
			return false
		}
	case 2, 3:
		if x.Same {
			return false
		}
	default:
		return false
	}
	return x.Cmd.Right() && x.Attr.Right() && x.Attr.Deps[x.ID.Replica] == x.ID.Slot
}

// statuses gives the statuses, and numbers that aren't any.
func statuses() []int {
	return []int{0, 1, 2, 3, 4, 5, -1, -3, 255, 256, 257, 259, 1 << 32, 1<<32 + 1, math.MinInt, math.MaxInt}
}

// ballots gives ballots, and numbers that aren't any.
func ballots() []mark.Ballot {
	return []mark.Ballot{0, 1, 6, 7, 8, 9, 10, 14, 15, 16, 17, 127, 128, 136, 300, lastBallot - 1, lastBallot, lastBallot + 1, lastBallot + 2, 1 << 31, math.MaxUint32}
}

// ids gives names of instances, and what aren't any.
func ids() []mark.ID {
	l := []mark.ID{{}, home, {Replica: 2, Slot: 1}, {Replica: 6, Slot: 1023}, {Replica: 7}, {Replica: 7, Slot: 2}, {Replica: -1}, {Slot: 1024}, {Slot: -1}, {Replica: 6, Slot: 1024}}
	return append(l, mark.ID{Replica: math.MinInt, Slot: math.MaxInt}, mark.ID{Replica: 1 << 32}, mark.ID{Replica: 257, Slot: 2}, mark.ID{Replica: 1, Slot: 1<<32 + 2})
}

// cmds gives commands, right and wrong ones.
func cmds() []cmd.Cmd {
	return []cmd.Cmd{{}, keep, acquire, greater, {Kind: cmd.Open}, {N: 1}, {Kind: 9}, {Kind: -1}, {Kind: cmd.Expire, Session: cmd.Session{Foot: "A"}}}
}

// attrs gives attributes, right and wrong ones.
func attrs() []attr.Attr {
	l := []attr.Attr{{}, deps(0, 0, 2), deps(3, 0, 2), deps(3, 7, 2, 7), deps(3, 2, 1), deps(0, 0, 1), deps(0, 0, 3), deps(0, 0, 0, 2), deps(1, 0, 1024), deps(1<<30, 0, 2)}
	return append(l, deps(1<<30+1, 0, 2), deps(-1, 0, 2), deps(0, -1, 2), deps(0, 1025, 2), deps(0, 0, -2), deps(math.MinInt, 0, 2), deps(0, 0, 2, math.MaxInt), deps(0, 0, 2, 0, 0, 0, -1), deps(0, 0, 0, 0, 0, 0, 0, 1023), deps(0, 0, 1<<32+2))
}

// many goes over states with some values of each part.
func many(f func(x inst.Inst)) {
	for _, id := range []mark.ID{home, {}, {Replica: 7, Slot: 2}, {Replica: 1, Slot: -1}} {
		for _, s := range []int{0, 1, 2, 3, 4, -1, 257} {
			for _, bal := range []mark.Ballot{0, 7, 8, 10, 15} {
				for _, vote := range []mark.Ballot{0, 7, 8, 10, 15} {
					for _, c := range []cmd.Cmd{{}, keep, {N: 1}} {
						for _, a := range []attr.Attr{{}, deps(3, 0, 2), deps(-1, 0, 2), deps(0, 0, 3)} {
							f(inst.Inst{ID: id, Status: s, Bal: bal, Vote: vote, Cmd: c, Attr: a})
							f(inst.Inst{ID: id, Status: s, Bal: bal, Vote: vote, Same: true, Cmd: c, Attr: a})
						}
					}
				}
			}
		}
	}
}

// near goes over some states with one part made another one.
func near(f func(x inst.Inst)) {
	for _, x := range some() {
		f(x)
		y := x
		y.Same = !x.Same
		f(y)
		for _, v := range ids() {
			y := x
			y.ID = v
			f(y)
		}
		for _, v := range statuses() {
			y := x
			y.Status = v
			f(y)
		}
		for _, v := range ballots() {
			y := x
			y.Bal = v
			f(y)
			y = x
			y.Vote = v
			f(y)
			y.Bal = v
			f(y)
		}
		for _, v := range cmds() {
			y := x
			y.Cmd = v
			f(y)
		}
		for _, v := range attrs() {
			y := x
			y.Attr = v
			f(y)
		}
	}
}

// P10.1: the statuses' numbers.
func TestNumbers(t *testing.T) {
	if inst.None != 0 || inst.Pre != 1 || inst.Accepted != 2 || inst.Committed != 3 {
		t.Error(inst.None, inst.Pre, inst.Accepted, inst.Committed)
	}
}

// P10.1: New has the name, whatever it is, and nothing else.
func TestNew(t *testing.T) {
	for _, i := range ids() {
		x := inst.New(i)
		if x != (inst.Inst{ID: i}) || x.Right() != i.Right() {
			t.Errorf("%+v %v", x, x.Right())
		}
	}
}

// P10.1
func TestRight(t *testing.T) {
	for _, x := range some() {
		if !x.Right() {
			t.Errorf("%+v", x)
		}
	}
	check := func(x inst.Inst) {
		if x.Right() != isRight(x) {
			t.Fatalf("%+v %v", x, x.Right())
		}
	}
	many(check)
	near(check)
}

// P10.1: the edges of what a state has.
func TestRightEdges(t *testing.T) {
	a := deps(3, 0, 2)
	for n, x := range []struct {
		x    inst.Inst
		want bool
	}{
		{inst.Inst{}, true},
		// Of None all but the name and the ballot is zero.
		{inst.Inst{ID: home, Bal: lastBallot}, true},
		{inst.Inst{ID: home, Bal: lastBallot + 1}, false},
		{inst.Inst{ID: home, Bal: 10, Vote: 10}, false},
		{inst.Inst{ID: home, Bal: 10, Vote: 8}, false},
		{inst.Inst{ID: home, Same: true}, false},
		{inst.Inst{ID: home, Cmd: keep}, false},
		{inst.Inst{ID: home, Attr: deps(1)}, false},
		{inst.Inst{ID: home, Attr: deps(0, 0, 2)}, false},
		{inst.Inst{ID: home, Attr: deps(0, 0, 0, 0, 0, 0, 0, 1)}, false},
		// A Vote is at most Bal, and a ballot.
		{inst.Inst{ID: home, Status: 1, Attr: a}, true},
		{inst.Inst{ID: home, Status: 1, Bal: 10, Vote: 10, Attr: a}, true},
		{inst.Inst{ID: home, Status: 1, Bal: 10, Vote: 11, Attr: a}, false},
		{inst.Inst{ID: home, Status: 1, Bal: 10, Vote: 9, Attr: a}, true},
		{inst.Inst{ID: home, Status: 1, Bal: 10, Vote: 7, Attr: a}, false},
		{inst.Inst{ID: home, Status: 1, Bal: 16, Vote: 15, Attr: a}, false},
		{inst.Inst{ID: home, Status: 1, Bal: 10, Vote: 1, Attr: a}, false},
		{inst.Inst{ID: home, Status: 1, Bal: 15, Vote: 10, Attr: a}, false},
		{inst.Inst{ID: home, Status: 2, Bal: 10, Vote: 16, Cmd: keep, Attr: a}, false},
		{inst.Inst{ID: home, Status: 3, Bal: 10, Vote: 16, Cmd: keep, Attr: a}, false},
		{inst.Inst{ID: home, Status: 3, Bal: lastBallot, Vote: lastBallot, Cmd: keep, Attr: a}, true},
		// Same.
		{inst.Inst{ID: home, Status: 1, Same: true, Attr: a}, true},
		{inst.Inst{ID: home, Status: 1, Same: true, Bal: 10, Attr: a}, true},
		{inst.Inst{ID: home, Status: 1, Same: true, Bal: 10, Vote: 8, Attr: a}, false},
		{inst.Inst{ID: home, Status: 2, Same: true, Attr: a}, false},
		{inst.Inst{ID: home, Status: 2, Same: true, Bal: 10, Attr: a}, false},
		{inst.Inst{ID: home, Status: 3, Same: true, Attr: a}, false},
		// The command, and the attributes, which are the instance's.
		{inst.Inst{ID: home, Status: 3, Cmd: greater, Attr: a}, true},
		{inst.Inst{ID: home, Status: 3, Cmd: cmd.Cmd{Kind: 2}, Attr: a}, false},
		{inst.Inst{ID: home, Status: 3, Cmd: cmd.Cmd{Mode: 1}, Attr: a}, false},
		{inst.Inst{ID: home, Status: 3, Cmd: keep}, false},
		{inst.Inst{ID: home, Status: 1, Attr: deps(0, 2, 1)}, false},
		{inst.Inst{ID: home, Status: 1, Attr: deps(0, 2, 3)}, false},
		{inst.Inst{ID: home, Status: 1, Attr: deps(1<<30, 1024, 2, 1024)}, true},
		{inst.Inst{ID: home, Status: 1, Attr: deps(1<<30+1, 1024, 2)}, false},
		{inst.Inst{ID: home, Status: 1, Attr: deps(0, 1025, 2)}, false},
		// The name and the status.
		{inst.Inst{ID: mark.ID{Replica: 7}, Bal: 10}, false},
		{inst.Inst{ID: mark.ID{Replica: -1}}, false},
		{inst.Inst{ID: mark.ID{Slot: 1024}, Status: 1, Attr: deps(0, 1024)}, false},
		{inst.Inst{ID: mark.ID{Slot: 1023}, Status: 1, Attr: deps(0, 1023)}, true},
		{inst.Inst{ID: home, Status: 4, Attr: a}, false},
		{inst.Inst{ID: home, Status: 4}, false},
		{inst.Inst{ID: home, Status: -1}, false},
		{inst.Inst{ID: home, Status: -1, Attr: a}, false},
	} {
		if got := x.x.Right(); got != x.want {
			t.Errorf("%d %+v %v", n, x.x, got)
		}
	}
}

// pool gives states that may be held against each other: all with some values of each part, right and wrong ones.
func pool() []inst.Inst {
	var l []inst.Inst
	for s := range 5 {
		for _, bal := range []mark.Ballot{0, 8, 10, 16} {
			l = append(l, inst.Inst{ID: home, Status: s, Bal: bal})
			for _, vote := range []mark.Ballot{0, 8, 10, 16} {
				for _, a := range []attr.Attr{deps(3, 0, 2), deps(4, 0, 2), deps(3, 0, 3)} {
					for _, c := range []cmd.Cmd{{}, keep} {
						l = append(l, inst.Inst{ID: home, Status: s, Bal: bal, Vote: vote, Cmd: c, Attr: a})
						l = append(l, inst.Inst{ID: home, Status: s, Bal: bal, Vote: vote, Same: true, Cmd: c, Attr: a})
					}
				}
			}
		}
	}
	other := mark.ID{Replica: 2, Slot: 2}
	l = append(l, inst.New(other), inst.Inst{ID: other, Status: 1, Bal: 16, Attr: deps(3, 0, 2, 2)}, inst.Inst{ID: other, Status: 3, Bal: 16, Vote: 16, Attr: deps(3, 0, 2, 2)})
	l = append(l, inst.New(mark.ID{Replica: 1, Slot: 1}), inst.New(mark.ID{Replica: 7}), inst.New(mark.ID{Replica: 7}), inst.Inst{ID: home, Bal: 15}, inst.Inst{ID: home, Bal: 1})
	return append(l, some()...)
}

// follows tells, by the chapter's words, whether x comes behind old.
func follows(x, old inst.Inst) bool {
	if x.ID != old.ID || !isRight(x) || !isRight(old) || x.Bal < old.Bal {
		return false
	}
	if old.Status == 3 {
		y := x
		y.Bal, y.Vote = old.Bal, old.Vote
		return y == old
	}
	if x.Status == 3 {
		return true
	}
	if x.Vote < old.Vote {
		return false
	}
	if x.Vote > old.Vote {
		return true
	}
	if x.Status < old.Status {
		return false
	}
	if x.Status == old.Status && x.Status > 0 {
		return x.Cmd == old.Cmd && x.Attr == old.Attr && x.Same == old.Same
	}
	return true
}

// P10.1: each of the pool's states against each other one.
func TestFollows(t *testing.T) {
	l := pool()
	yes := 0
	for _, x := range l {
		if x.Follows(x) != isRight(x) {
			t.Errorf("%+v %v", x, x.Follows(x))
		}
		for _, old := range l {
			want := follows(x, old)
			if x.Follows(old) != want {
				t.Fatalf("%+v behind %+v: %v", x, old, !want)
			}
			if want {
				yes++
			}
		}
	}
	if yes < 1000 {
		t.Error(yes)
	}
}

// P10.1: what a state may come behind, case by case.
func TestFollowsEdges(t *testing.T) {
	a, b := deps(3, 0, 2), deps(4, 0, 2)
	state := func(status int, bal, vote mark.Ballot, c cmd.Cmd, a attr.Attr) inst.Inst {
		return inst.Inst{ID: home, Status: status, Bal: bal, Vote: vote, Cmd: c, Attr: a}
	}
	same := inst.Inst{ID: home, Status: 1, Bal: 8, Same: true, Cmd: keep, Attr: a}
	for n, x := range []struct {
		x, old inst.Inst
		want   bool
	}{
		{inst.New(home), inst.New(home), true},
		{inst.New(home), inst.New(mark.ID{Replica: 1, Slot: 3}), false},
		{inst.New(mark.ID{Replica: 7}), inst.New(mark.ID{Replica: 7}), false},
		{inst.Inst{ID: home, Bal: 10}, inst.New(home), true},
		{inst.New(home), inst.Inst{ID: home, Bal: 10}, false},
		{inst.Inst{ID: home, Bal: 15}, inst.New(home), false},
		{inst.New(home), inst.Inst{ID: home, Cmd: keep}, false},
		// From None on.
		{state(1, 0, 0, keep, a), inst.New(home), true},
		{state(2, 0, 0, keep, a), inst.New(home), true},
		{state(3, 0, 0, keep, a), inst.New(home), true},
		{inst.New(home), state(1, 0, 0, keep, a), false},
		{inst.Inst{ID: home, Bal: 16}, state(1, 8, 0, keep, a), false},
		// Bal falls of no status.
		{state(1, 8, 8, keep, a), state(1, 10, 8, keep, a), false},
		{state(3, 8, 8, keep, a), state(3, 10, 8, keep, a), false},
		{state(3, 8, 8, keep, a), inst.Inst{ID: home, Bal: 10}, false},
		// The other one is Committed.
		{state(3, 16, 16, keep, a), state(3, 10, 8, keep, a), true},
		{state(3, 16, 0, keep, a), state(3, 10, 8, keep, a), true},
		{state(3, 10, 10, keep, a), state(3, 10, 8, keep, a), true},
		{state(3, 16, 16, acquire, a), state(3, 10, 8, keep, a), false},
		{state(3, 16, 16, keep, b), state(3, 10, 8, keep, a), false},
		{state(2, 16, 16, keep, a), state(3, 10, 8, keep, a), false},
		{state(1, 16, 16, keep, a), state(3, 10, 8, keep, a), false},
		{inst.Inst{ID: home, Bal: 16}, state(3, 10, 8, keep, a), false},
		// Just it itself is: its Vote may be any.
		{state(3, 16, 0, acquire, b), state(2, 16, 16, keep, a), true},
		{state(3, 16, 8, acquire, b), state(1, 16, 10, keep, a), true},
		{state(3, 16, 16, acquire, b), state(2, 16, 16, keep, a), true},
		{state(3, 10, 0, acquire, b), same, true},
		// A greater Vote, with any value and Status.
		{state(1, 16, 16, acquire, b), state(2, 16, 10, keep, a), true},
		{state(2, 16, 16, acquire, b), state(2, 16, 10, keep, a), true},
		{state(1, 16, 16, acquire, b), state(1, 16, 10, keep, a), true},
		{state(1, 16, 16, acquire, b), same, true},
		// A lesser one.
		{state(2, 16, 8, keep, a), state(1, 16, 10, keep, a), false},
		{state(2, 16, 0, keep, a), state(2, 16, 10, keep, a), false},
		{inst.Inst{ID: home, Bal: 16}, state(1, 16, 10, keep, a), false},
		// The same one: the Status isn't less, and of the same Status the values are the same.
		{state(2, 16, 10, acquire, b), state(1, 16, 10, keep, a), true},
		{state(2, 16, 0, acquire, b), same, true},
		{state(1, 16, 10, keep, a), state(2, 16, 10, keep, a), false},
		{state(1, 16, 10, keep, a), state(1, 10, 10, keep, a), true},
		{state(1, 16, 10, acquire, a), state(1, 10, 10, keep, a), false},
		{state(1, 16, 10, keep, b), state(1, 10, 10, keep, a), false},
		{state(2, 16, 10, keep, a), state(2, 10, 10, keep, a), true},
		{state(2, 16, 10, acquire, a), state(2, 10, 10, keep, a), false},
		{state(2, 16, 10, keep, b), state(2, 10, 10, keep, a), false},
		{same, same, true},
		{state(1, 8, 0, keep, a), same, false},
		{same, state(1, 8, 0, keep, a), false},
		{state(1, 0, 0, keep, a), state(1, 0, 0, keep, a), true},
	} {
		if got := x.x.Follows(x.old); got != x.want {
			t.Errorf("%d %+v behind %+v: %v", n, x.x, x.old, got)
		}
	}
}

// P10.1: Alike asks of nothing but the command and the attributes.
func TestAlike(t *testing.T) {
	l := pool()
	near(func(x inst.Inst) { l = append(l, x) })
	for _, x := range l {
		for _, y := range l[:200] {
			want := x.Cmd == y.Cmd && x.Attr == y.Attr
			if x.Alike(y) != want || y.Alike(x) != want {
				t.Fatalf("%+v %+v %v", x, y, !want)
			}
		}
	}
	a := deps(3, 0, 2)
	x := inst.Inst{ID: home, Status: 3, Bal: 16, Vote: 8, Cmd: keep, Attr: a}
	y := inst.Inst{ID: mark.ID{Replica: -1}, Status: -1, Bal: 7, Vote: 15, Same: true, Cmd: keep, Attr: a}
	if !x.Alike(y) || !y.Alike(x) || !inst.New(home).Alike(inst.Inst{}) {
		t.Error("the rest counts")
	}
	y.Attr.Deps[6] = 1
	if x.Alike(y) {
		t.Error("Deps")
	}
	y.Attr = a
	y.Cmd.Time++
	if x.Alike(y) {
		t.Error("Time")
	}
}

// bytesOf gives a right state's bytes, part by part.
func bytesOf(x inst.Inst) []byte {
	o := new(wire.Out)
	o.Byte(byte(x.ID.Replica)).Short(uint64(x.ID.Slot)).Short(uint64(x.Bal)).Byte(byte(x.Status))
	if x.Status == 0 {
		return o.Bytes()
	}
	o.Short(uint64(x.Vote))
	if x.Same {
		o.Byte(1)
	} else {
		o.Byte(0)
	}
	b := append(o.Bytes(), x.Cmd.Bytes()...)
	o = new(wire.Out).Short(uint64(x.Attr.Seq))
	for _, n := range x.Attr.Deps {
		o.Short(uint64(n))
	}
	return append(b, o.Bytes()...)
}

// P10.2: bytes written out, the chapter's example among them.
func TestBytesOfSome(t *testing.T) {
	const seven = "\x00\x00\x00\x00\x00\x00\x00\x07\x01a"
	for n, x := range []struct {
		x inst.Inst
		b string
	}{
		{inst.New(home), "\x01\x02\x00\x00"},
		{inst.Inst{ID: mark.ID{Replica: 6, Slot: 1023}, Bal: lastBallot}, "\x06\xff\x07\xfe\xff\xff\x3f\x00"},
		{inst.Inst{ID: home, Status: inst.Pre, Same: true, Attr: deps(3, 0, 2)}, "\x01\x02\x00\x01\x00\x01\x00\x03\x00\x02\x00\x00\x00\x00\x00"},
		{inst.Inst{ID: home, Status: inst.Pre, Bal: 300, Vote: 136, Attr: deps(3, 0, 2)}, "\x01\x02\xac\x02\x01\x88\x01\x00\x00\x03\x00\x02\x00\x00\x00\x00\x00"},
		{inst.Inst{ID: home, Status: inst.Accepted, Bal: 10, Vote: 8, Cmd: keep, Attr: deps(300, 1, 2, 1024, 4, 5, 6, 7)}, "\x01\x02\x0a\x02\x08\x00\x03" + seven + "\xac\x02\x05\xac\x02\x01\x02\x80\x08\x04\x05\x06\x07"},
		{inst.Inst{ID: home, Status: inst.Committed, Bal: 10, Cmd: acquire, Attr: deps(0, 0, 2)}, "\x01\x02\x0a\x03\x00\x00\x04" + seven + "\x09\x03b/c\x01\x00\x00\x02\x00\x00\x00\x00\x00"},
	} {
		if got := x.x.Bytes(); string(got) != x.b {
			t.Errorf("%d %x", n, got)
		}
		if got, e := inst.Parse([]byte(x.b)); got != x.x || e != api.OK {
			t.Errorf("%d %+v %v", n, got, e)
		}
	}
}

// P10.2: a right state comes back from its bytes, and stands alone among others.
func TestBytes(t *testing.T) {
	check := func(x inst.Inst) {
		if !isRight(x) {
			return
		}
		want := bytesOf(x)
		if got := x.Bytes(); !bytes.Equal(got, want) {
			t.Fatalf("%+v %x %x", x, got, want)
		}
		o := new(wire.Out).Byte(9)
		x.Put(o)
		o.Byte(8)
		if got := o.Bytes(); got[0] != 9 || got[len(got)-1] != 8 || !bytes.Equal(got[1:len(got)-1], want) {
			t.Fatalf("%+v %x", x, got)
		}
		if got, e := inst.Parse(want); got != x || e != api.OK {
			t.Fatalf("%+v %+v %v", x, got, e)
		}
		in := wire.NewIn(o.Bytes())
		in.Byte()
		if got := inst.Take(in); got != x || in.Failed() || in.Left() != 1 || in.Byte() != 8 || in.End() != api.OK {
			t.Fatalf("%+v %+v %v", x, got, in.End())
		}
	}
	many(check)
	near(check)
	for _, x := range pool() {
		check(x)
	}
}

// P10.2: several in a row.
func TestTakeInARow(t *testing.T) {
	o := new(wire.Out)
	for _, x := range some() {
		x.Put(o)
	}
	in := wire.NewIn(o.Bytes())
	for _, x := range some() {
		if got := inst.Take(in); got != x {
			t.Errorf("%+v %+v", x, got)
		}
	}
	if in.End() != api.OK {
		t.Error(in.End())
	}
}

// isRefused tells that bytes are refused by an error, in each way.
func isRefused(t *testing.T, b string, e api.Errno) {
	t.Helper()
	in := wire.NewIn([]byte(b))
	if x := inst.Take(in); x != (inst.Inst{}) || !in.Failed() || in.End() != e || in.Left() != 0 {
		t.Errorf("%x %+v %v", b, x, in.End())
	}
	if x, got := inst.Parse([]byte(b)); x != (inst.Inst{}) || got != e {
		t.Errorf("%x %+v %v", b, x, got)
	}
	// Whatever stands behind, it is refused by that: nothing is missing there.
	if e == api.ErrShort {
		return
	}
	if x, got := inst.Parse(append([]byte(b), 0, 0, 0)); x != (inst.Inst{}) || got != e {
		t.Errorf("%x and more: %+v %v", b, x, got)
	}
}

// P10.2
func TestTakeWrong(t *testing.T) {
	const noop, own = "\x00", "\x03\x00\x02\x00\x00\x00\x00\x00"
	for _, x := range []struct {
		b string
		e api.Errno
	}{
		{"", api.ErrShort},
		// The name.
		{"\x07", api.ErrRange},
		{"\x07\x02\x00\x00", api.ErrRange},
		{"\xff\x02\x00\x00", api.ErrRange},
		{"\x01", api.ErrShort},
		{"\x01\x80\x08\x00\x00", api.ErrRange},
		{"\x01\x82\x00\x00\x00", api.ErrForm},
		{"\x01\x82", api.ErrShort},
		// Bal.
		{"\x01\x02", api.ErrShort},
		{"\x01\x02\x01\x00", api.ErrBallot},
		{"\x01\x02\x0f\x00", api.ErrBallot},
		{"\x01\x02\xff\xff\xff\x3f\x00", api.ErrBallot},
		{"\x01\x02\x88\x80\x80\x40\x00", api.ErrBallot},
		{"\x01\x02\xff\xff\xff\xff\x0f\x00", api.ErrBallot},
		{"\x01\x02\x80\x80\x80\x80\x10\x00", api.ErrRange},
		{"\x01\x02\x88\x00\x00", api.ErrForm},
		{"\x01\x02\x88", api.ErrShort},
		// The Status.
		{"\x01\x02\x00", api.ErrShort},
		{"\x01\x02\x00\x04", api.ErrKind},
		{"\x01\x02\x00\xff", api.ErrKind},
		{"\x01\x02\x00\x80", api.ErrKind},
		{"\x01\x02\x0a\x04\x00\x00" + noop + own, api.ErrKind},
		// The Vote.
		{"\x01\x02\x0a\x01", api.ErrShort},
		{"\x01\x02\x0a\x01\x01\x00" + noop + own, api.ErrBallot},
		{"\x01\x02\x0a\x01\x07\x00" + noop + own, api.ErrBallot},
		{"\x01\x02\x0a\x01\x80\x80\x80\x80\x10\x00" + noop + own, api.ErrRange},
		{"\x01\x02\x0a\x01\x88\x00\x00" + noop + own, api.ErrForm},
		{"\x01\x02\x0a\x01\x0b\x00" + noop + own, api.ErrForm},
		{"\x01\x02\x0a\x02\x10\x00" + noop + own, api.ErrForm},
		{"\x01\x02\x00\x03\x08\x00" + noop + own, api.ErrForm},
		// Same.
		{"\x01\x02\x0a\x01\x08", api.ErrShort},
		{"\x01\x02\x0a\x01\x00\x02" + noop + own, api.ErrForm},
		{"\x01\x02\x0a\x01\x00\xff" + noop + own, api.ErrForm},
		{"\x01\x02\x0a\x01\x08\x01" + noop + own, api.ErrForm},
		{"\x01\x02\x0a\x02\x00\x01" + noop + own, api.ErrForm},
		{"\x01\x02\x0a\x03\x00\x01" + noop + own, api.ErrForm},
		// The command.
		{"\x01\x02\x0a\x01\x08\x00", api.ErrShort},
		{"\x01\x02\x0a\x01\x08\x00\x09" + own, api.ErrKind},
		{"\x01\x02\x0a\x01\x08\x00\x02\x00\x00\x00\x00\x00\x00\x00\x07\x01A\x01" + own, api.ErrForm},
		{"\x01\x02\x0a\x01\x08\x00\x02\x00\x00\x00\x00\x00\x00\x00\x07\x41", api.ErrRange},
		// The attributes.
		{"\x01\x02\x0a\x01\x08\x00" + noop, api.ErrShort},
		{"\x01\x02\x0a\x01\x08\x00" + noop + own[:7], api.ErrShort},
		{"\x01\x02\x0a\x01\x08\x00" + noop + "\x81\x80\x80\x80\x04\x00\x02\x00\x00\x00\x00\x00", api.ErrRange},
		{"\x01\x02\x0a\x01\x08\x00" + noop + "\x00\x81\x08\x02\x00\x00\x00\x00\x00", api.ErrRange},
		{"\x01\x02\x0a\x01\x08\x00" + noop + "\x00\x00\x82\x00\x00\x00\x00\x00\x00", api.ErrForm},
		{"\x01\x02\x0a\x01\x08\x00" + noop + "\x00\x00\x01\x00\x00\x00\x00\x00", api.ErrForm},
		{"\x01\x02\x0a\x01\x08\x00" + noop + "\x00\x02\x03\x00\x00\x00\x00\x00", api.ErrForm},
		{"\x01\x02\x0a\x03\x08\x00" + noop + "\x00\x00\x00\x02\x00\x00\x00\x00", api.ErrForm},
		// An error of a part ahead of ErrForm, and an earlier part's ahead of a later one's.
		{"\x01\x02\x08\x01\x10\x00" + noop + "\x03\x00\x02", api.ErrShort},
		{"\x01\x02\x08\x02\x08\x01" + noop + "\x81\x80\x80\x80\x04", api.ErrRange},
		{"\x01\x02\x08\x02\x08\x01\x09", api.ErrKind},
		{"\x07\x02\x01\x04", api.ErrRange},
		{"\x01\x02\x01\x04", api.ErrBallot},
		{"\x01\x02\x08\x04\x01\x02\x09", api.ErrKind},
		{"\x01\x02\x08\x01\x01\x02\x09", api.ErrBallot},
		{"\x01\x02\x08\x01\x08\x02\x09", api.ErrForm},
	} {
		isRefused(t, x.b, x.e)
	}
	// Where none is wrong.
	if x, e := inst.Parse([]byte("\x01\x02\x0a\x01\x08\x00" + noop + own)); x != (inst.Inst{ID: home, Status: 1, Bal: 10, Vote: 8, Attr: deps(3, 0, 2)}) || e != api.OK {
		t.Errorf("%+v %v", x, e)
	}
}

// P10.2: of each byte as a Status.
func TestTakeEachStatus(t *testing.T) {
	for s := range 256 {
		b := string([]byte{1, 2, 0, byte(s)})
		switch {
		case s > 3:
			isRefused(t, b, api.ErrKind)
			isRefused(t, b+strings.Repeat("\x00", 40), api.ErrKind)
		case s > 0:
			isRefused(t, b, api.ErrShort)
		}
	}
}

// P10.2: cut anywhere, and with more behind it.
func TestParseCut(t *testing.T) {
	for _, x := range append(pool(), some()...) {
		if !isRight(x) {
			continue
		}
		b := bytesOf(x)
		for n := range b {
			isRefused(t, string(b[:n]), api.ErrShort)
		}
		for _, more := range []string{"\x00", "\xff", strings.Repeat("\x01", 1000)} {
			if got, e := inst.Parse(append(bytes.Clone(b), more...)); got != (inst.Inst{}) || e != api.ErrLong {
				t.Fatalf("%+v %+v %v", x, got, e)
			}
		}
	}
	if x, e := inst.Parse(nil); x != (inst.Inst{}) || e != api.ErrShort {
		t.Error(x, e)
	}
}

// P10.2: an input that has failed keeps its error, and a zero state is taken from it.
func TestTakeFromFailed(t *testing.T) {
	for _, x := range some() {
		for _, e := range []api.Errno{api.ErrSum, api.ErrKind, api.ErrForm, api.ErrShort, 99, -1} {
			in := wire.NewIn(x.Bytes())
			in.Fail(e)
			if got := inst.Take(in); got != (inst.Inst{}) || in.End() != e {
				t.Error(x, got, in.End())
			}
		}
	}
	in := wire.NewIn(append([]byte{1, 2, 0, 4}, some()[4].Bytes()...))
	for range 3 {
		if got := inst.Take(in); got != (inst.Inst{}) || in.End() != api.ErrKind {
			t.Error(got, in.End())
		}
	}
}

// take is the state of bytes, by the chapter's words and the calls of the layers below.
func take(b []byte) (inst.Inst, api.Errno) {
	in := wire.NewIn(b)
	x := inst.Inst{ID: mark.TakeID(in), Bal: mark.TakeBallot(in), Status: int(in.Byte())}
	if in.Failed() {
		return inst.Inst{}, in.End()
	}
	if x.Status > 3 {
		return inst.Inst{}, api.ErrKind
	}
	if x.Status > 0 {
		x.Vote, x.Same = mark.TakeBallot(in), in.Truth()
		x.Cmd = cmd.Take(in)
		x.Attr = attr.Take(in)
	}
	switch {
	case in.Failed():
		return inst.Inst{}, in.End()
	case !isRight(x):
		return inst.Inst{}, api.ErrForm
	case in.Left() > 0:
		return inst.Inst{}, api.ErrLong
	}
	return x, api.OK
}

// holdsParse holds Parse against the chapter's words, and a state that is told against its own bytes.
func holdsParse(t *testing.T, b []byte) {
	t.Helper()
	want, e := take(b)
	got, err := inst.Parse(b)
	if got != want || err != e {
		t.Fatalf("%x %+v %v not %+v %v", b, got, err, want, e)
	}
	if e == api.OK && !bytes.Equal(got.Bytes(), b) {
		t.Fatalf("%x %+v %x", b, got, got.Bytes())
	}
}

// P10.2: right states' bytes with some bytes made other ones, left out, or put between; and random ones.
func TestParseSpoilt(t *testing.T) {
	for _, x := range some() {
		b := x.Bytes()
		for at := range b {
			for v := range 256 {
				d := bytes.Clone(b)
				d[at] = byte(v)
				holdsParse(t, d)
				holdsParse(t, append(append(bytes.Clone(b[:at]), byte(v)), b[at:]...))
			}
			holdsParse(t, append(bytes.Clone(b[:at]), b[at+1:]...))
		}
	}
	random := rand.New(rand.NewSource(10))
	for range 100000 {
		b := make([]byte, random.Intn(24))
		for n := range b {
			b[n] = "\x00\x00\x00\x01\x01\x02\x02\x03\x04\x08\x0a\x10a\x80\xff"[random.Intn(15)]
		}
		holdsParse(t, b)
	}
}

// textOf is a right state's text, part by part.
func textOf(x inst.Inst) string {
	s := fmt.Sprintf("%d.%d %d.%d ", x.ID.Replica, x.ID.Slot, x.Bal>>3, x.Bal&7)
	if x.Status == 0 {
		return s + "none"
	}
	s += []string{"", "pre", "accepted", "committed"}[x.Status]
	whose := "other"
	if x.Same {
		whose = "same"
	}
	c, _ := x.Cmd.Show()
	d := strings.Trim(strings.ReplaceAll(fmt.Sprint(x.Attr.Deps), " ", ","), "[]")
	return fmt.Sprintf("%s %d.%d %s %d|%s %s", s, x.Vote>>3, x.Vote&7, whose, x.Attr.Seq, d, c)
}

// P10.3: texts written out.
func TestShowSome(t *testing.T) {
	for n, x := range []struct {
		x inst.Inst
		s string
	}{
		{inst.New(home), "1.2 0.0 none"},
		{inst.Inst{ID: mark.ID{Replica: 6, Slot: 1023}, Bal: lastBallot}, "6.1023 16777215.6 none"},
		{inst.Inst{ID: home, Status: inst.Pre, Same: true, Attr: deps(3, 0, 2)}, "1.2 0.0 pre 0.0 same 3|0,2,0,0,0,0,0 noop"},
		{inst.Inst{ID: home, Status: inst.Pre, Bal: 10, Attr: deps(3, 0, 2)}, "1.2 1.2 pre 0.0 other 3|0,2,0,0,0,0,0 noop"},
		{inst.Inst{ID: home, Status: inst.Accepted, Bal: 17, Vote: 10, Cmd: keep, Attr: deps(300, 1, 2, 1024, 4, 5, 6, 7)}, "1.2 2.1 accepted 1.2 other 300|1,2,1024,4,5,6,7 keep num=7 foot=a request=300 time=5"},
		{inst.Inst{ID: home, Status: inst.Committed, Bal: 17, Vote: 17, Cmd: acquire, Attr: deps(0, 0, 2)}, "1.2 2.1 committed 2.1 other 0|0,2,0,0,0,0,0 acquire num=7 foot=a request=9 path=b/c mode=1"},
	} {
		if s, e := x.x.Show(); s != x.s || e != api.OK {
			t.Error(n, s, e)
		}
		if got, e := inst.Read(x.s); got != x.x || e != api.OK {
			t.Errorf("%d %+v %v", n, got, e)
		}
	}
}

// P10.3: a right state comes back from its text; another one has none; each has one of its own.
func TestShow(t *testing.T) {
	owner := map[string]inst.Inst{}
	check := func(x inst.Inst) {
		s, e := x.Show()
		if !isRight(x) {
			if s != "" || e != api.ErrForm {
				t.Fatalf("%+v %q %v", x, s, e)
			}
			return
		}
		if s != textOf(x) || e != api.OK {
			t.Fatalf("%+v %q %v", x, s, e)
		}
		if got, e := inst.Read(s); got != x || e != api.OK {
			t.Fatalf("%+v %q %+v %v", x, s, got, e)
		}
		if was, ok := owner[s]; ok && was != x {
			t.Fatal(s, was, x)
		}
		owner[s] = x
	}
	many(check)
	near(check)
	for _, x := range pool() {
		check(x)
	}
}

var (
	noneForm  = regexp.MustCompile(`\A([^ ]*) ([^ ]*) none\z`)
	valueForm = regexp.MustCompile(`(?s)\A([^ ]*) ([^ ]*) (pre|accepted|committed) ([^ ]*) (same|other) ([^ ]*) (.*)\z`)
)

// readOf is the state of a text, by the chapter's words and the calls of the layers below.
func readOf(s string) (inst.Inst, bool) {
	var x inst.Inst
	var e [5]api.Errno
	if m := noneForm.FindStringSubmatch(s); m != nil {
		x.ID, e[0] = mark.ReadID(m[1])
		x.Bal, e[1] = mark.ReadBallot(m[2])
	} else if m := valueForm.FindStringSubmatch(s); m != nil {
		x.ID, e[0] = mark.ReadID(m[1])
		x.Bal, e[1] = mark.ReadBallot(m[2])
		x.Status = map[string]int{"pre": 1, "accepted": 2, "committed": 3}[m[3]]
		x.Vote, e[2] = mark.ReadBallot(m[4])
		x.Same = m[5] == "same"
		x.Attr, e[3] = attr.Read(m[6])
		x.Cmd, e[4] = cmd.Read(m[7])
	} else {
		return inst.Inst{}, false
	}
	if e != [5]api.Errno{} || !isRight(x) {
		return inst.Inst{}, false
	}
	return x, true
}

// holdsRead holds Read against the chapter's words.
func holdsRead(t *testing.T, s string) {
	t.Helper()
	want, ok := readOf(s)
	e := api.OK
	if !ok {
		e = api.ErrForm
	}
	got, err := inst.Read(s)
	if got != want || err != e {
		t.Fatalf("%.200q %+v %v not %+v %v", s, got, err, want, e)
	}
	if own, se := got.Show(); ok && (own != s || se != api.OK) {
		t.Fatalf("%.200q %q %v", s, own, se)
	}
}

// P10.3
func TestReadWrong(t *testing.T) {
	const head, value = "1.2 1.2 pre ", "3|0,2,0,0,0,0,0 noop"
	for _, s := range []string{
		"", " ", "none", "1.2", "1.2 0.0", "1.2 0.0 ", "1.2 0.0 nil", "1.2 0.0 None", "1.2 0.0 0", "1.2 none 0.0", "none 1.2 0.0", "1.2 none", "0.0 none",
		"1.2 0.0 none ", " 1.2 0.0 none", "1.2  0.0 none", "1.2 0.0  none", "1.2 0.0 none\n", "1.2 0.0 none\x00", "1.2\t0.0\tnone", "1.2 0.0 none none", "1.2 0.0 nonenone",
		"1.2 0.0 none 0.0", "1.2 0.0 none 0.0 other", "1.2 0.0 none 0.0 other 0|0,0,0,0,0,0,0 noop", "1.2 0.0 none 0.0 other 0|0,2,0,0,0,0,0 noop",
		"7.2 0.0 none", "1.1024 0.0 none", "-1.2 0.0 none", "01.2 0.0 none", "1.02 0.0 none", "1 0.0 none", "1.2.3 0.0 none", "1,2 0.0 none", "+1.2 0.0 none", " 0.0 none",
		"1.2 0.1 none", "1.2 1.7 none", "1.2 16777216.0 none", "1.2 00.0 none", "1.2 0 none", "1.2 -1.0 none", "1.2  none", "1.2 10 none",
		"1.2 1.2 pre", "1.2 1.2 pre ", "1.2 1.2 pre 0.0", "1.2 1.2 pre 0.0 other", "1.2 1.2 pre 0.0 other 3|0,2,0,0,0,0,0", "1.2 1.2 pre 0.0 other 3|0,2,0,0,0,0,0 ",
		"1.2 1.2 pre 0.0 other noop", "1.2 1.2 pre 0.0 " + value, "1.2 1.2 pre other " + value, "1.2 1.2 0.0 other " + value, "1.2 pre 0.0 other " + value, "1.2 pre 0.0 0.0 other " + value,
		head + "other 0.0 " + value, head + "0.0 other noop 3|0,2,0,0,0,0,0", head + "0.0 3|0,2,0,0,0,0,0 other noop",
		head + "0.0 Same " + value, head + "0.0 SAME " + value, head + "0.0 true " + value, head + "0.0 1 " + value, head + "0.0  " + value, head + "0.0 same other " + value, head + "0.0 othersame " + value,
		head + "0.0 other  " + value, head + " 0.0 other " + value, head + "0.0 other " + value + " ", head + "0.0 other " + value + " noop", head + "0.0 other " + value + "\n", head + "0.0 other 3|0,2,0,0,0,0,0  noop",
		head + "0.1 other " + value, head + "1.3 other " + value, head + "2.0 other " + value, head + "1.7 other " + value, head + "01.2 other " + value, head + "1 other " + value, head + "-1.0 other " + value,
		head + "1.2 same " + value, head + "1.0 same " + value, "1.2 1.2 accepted 0.0 same " + value, "1.2 1.2 committed 0.0 same " + value, "1.2 1.2 accepted 1.2 same " + value,
		head + "0.0 other 3|0,3,0,0,0,0,0 noop", head + "0.0 other 3|2,1,0,0,0,0,0 noop", head + "0.0 other 3|0,0,0,0,0,0,0 noop", head + "0.0 other 3|0,2,0,0,0,0 noop", head + "0.0 other 3|0,2,0,0,0,0,0,0 noop",
		head + "0.0 other 1073741825|0,2,0,0,0,0,0 noop", head + "0.0 other 3|1025,2,0,0,0,0,0 noop", head + "0.0 other -1|0,2,0,0,0,0,0 noop", head + "0.0 other 03|0,2,0,0,0,0,0 noop", head + "0.0 other 3:0,2,0,0,0,0,0 noop",
		head + "0.0 other 3|0,2,0,0,0,0,0 nope", head + "0.0 other 3|0,2,0,0,0,0,0 NOOP", head + "0.0 other 3|0,2,0,0,0,0,0 close num=7 foot=a", head + "0.0 other 3|0,2,0,0,0,0,0 close num=7 foot=A request=1",
		head + "0.0 other 3|0,2,0,0,0,0,0 close num=7 foot=a request=0", head + "0.0 other 3|0,2,0,0,0,0,0 close num=7  foot=a request=1", head + "0.0 other 3|0,2,0,0,0,0,0 close num=7 foot=a request=1 ",
		"1.2 1.2 Pre 0.0 other " + value, "1.2 1.2 1 0.0 other " + value, "1.2 1.2 preaccepted 0.0 other " + value, "1.2 1.2 commit 0.0 other " + value, "1.2 1.2  0.0 other " + value,
		"7.2 1.2 pre 0.0 other " + value, "1.3 1.2 pre 0.0 other " + value, "2.2 1.2 pre 0.0 other " + value, "1.2 0.0 pre 1.0 other " + value,
		strings.Repeat(" ", 100000), strings.Repeat("1.2 ", 30000), "1.2 0.0 none" + strings.Repeat(" ", 100000), strings.Repeat("1", 100000) + ".2 0.0 none", "1.2 0.0 " + strings.Repeat("none", 30000),
		head + "0.0 other " + strings.Repeat("3|0,2,0,0,0,0,0 ", 10000) + "noop", head + "0.0 other 3|0,2,0,0,0,0,0 close num=7 foot=" + strings.Repeat("a/", 50000) + "a request=1",
	} {
		if x, e := inst.Read(s); x != (inst.Inst{}) || e != api.ErrForm {
			t.Errorf("%.100q %+v %v", s, x, e)
		}
		if _, ok := readOf(s); ok {
			t.Errorf("%.100q is one", s)
		}
	}
	if x, e := inst.Read(head + "0.0 other " + value); x != (inst.Inst{ID: home, Status: 1, Bal: 10, Attr: deps(3, 0, 2)}) || e != api.OK {
		t.Errorf("%+v %v", x, e)
	}
}

// P10.3: states' texts with a byte made another one, left out, or put between, and with words changed.
func TestReadSpoilt(t *testing.T) {
	for _, x := range some()[:11] {
		s, _ := x.Show()
		for at := range len(s) {
			for v := range 256 {
				holdsRead(t, s[:at]+string([]byte{byte(v)})+s[at+1:])
				holdsRead(t, s[:at]+string([]byte{byte(v)})+s[at:])
			}
			holdsRead(t, s[:at]+s[at+1:])
			holdsRead(t, s[:at])
			holdsRead(t, s[at:])
			holdsRead(t, s[:at]+s)
		}
	}
}

// P10.3: texts made at random of the words of which they consist.
func TestReadAgainstTheChapter(t *testing.T) {
	random := rand.New(rand.NewSource(103))
	places := [][]string{
		{"1.2", "1.2", "1.2", "0.0", "7.2", "1.3", ""},
		{"0.0", "1.2", "1.2", "2.1", "2.1", "1.7", "0.1"},
		{"none", "pre", "pre", "accepted", "committed", "Pre", "same"},
		{"0.0", "0.0", "1.2", "2.0", "2.1", "2.2", "1.7"},
		{"same", "other", "other", "other", "Same", "none", ""},
		{"3|0,2,0,0,0,0,0", "3|0,2,0,0,0,0,0", "0|5,2,0,0,0,0,7", "3|0,3,0,0,0,0,0", "0|0,0,0,0,0,0,0", "0|0,2", ""},
		{"noop", "noop", "keep num=7 foot=a request=300 time=5", "expire num=7 foot=a time=5", "expire num=7 foot=a", "noop ", ""},
	}
	read := 0
	for range 100000 {
		l := make([]string, 0, 8)
		for _, p := range places {
			l = append(l, p[random.Intn(len(p))>>random.Intn(2)])
		}
		l = l[:3+4*random.Intn(2)]
		switch random.Intn(20) {
		case 0:
			l = l[:random.Intn(len(l))]
		case 1:
			l = append(l, "noop")
		case 2:
			n, m := random.Intn(len(l)), random.Intn(len(l))
			l[n], l[m] = l[m], l[n]
		}
		s := strings.Join(l, " ")
		holdsRead(t, s)
		if _, ok := readOf(s); ok {
			read++
		}
	}
	if read < 1000 {
		t.Error(read)
	}
}

// P10.2: what is handed in is neither changed nor kept, what is told is new.
func TestMemory(t *testing.T) {
	for _, x := range some() {
		want := bytesOf(x)
		b := append(bytes.Clone(want), 1, 2, 3)
		got, e := inst.Parse(b[:len(want)])
		if !bytes.Equal(b, append(bytes.Clone(want), 1, 2, 3)) {
			t.Errorf("%x", b)
		}
		for n := range b {
			b[n] = 'z'
		}
		if got != x || e != api.OK {
			t.Error(x, got, e)
		}
		told := x.Bytes()
		told = told[:cap(told)]
		for n := range told {
			told[n] = 0xee
		}
		if again := x.Bytes(); !bytes.Equal(again, want) {
			t.Errorf("%x", again)
		}
	}
}

// isWithin tells whether a text lies in another one's memory.
func isWithin(s, of string) bool {
	a, b := uintptr(unsafe.Pointer(unsafe.StringData(s))), uintptr(unsafe.Pointer(unsafe.StringData(of)))
	return s != "" && a >= b && a < b+uintptr(len(of))
}

// P10.3: texts that are told aren't those that were handed in.
func TestMemoryOfTexts(t *testing.T) {
	for _, x := range some() {
		s, _ := x.Show()
		got, _ := inst.Read(s)
		if isWithin(got.Cmd.Session.Foot, s) || isWithin(got.Cmd.Path, s) || isWithin(s, x.Cmd.Path) || isWithin(s, x.Cmd.Session.Foot) {
			t.Error(x)
		}
	}
}

// States are values: what is asked of them doesn't change them.
func TestValuesStay(t *testing.T) {
	l, was := pool(), pool()
	for n := range l {
		m := len(l) - 1 - n
		l[n].Right()
		l[n].Alike(l[m])
		l[n].Follows(l[m])
		l[n].Bytes()
		l[n].Show()
		if l[n] != was[n] || l[m] != was[m] {
			t.Fatal(n, l[n], l[m])
		}
	}
}

// P1: no call panics, whatever it is given.
func TestNoPanic(t *testing.T) {
	var before inst.Inst
	check := func(x inst.Inst) {
		x.Right()
		x.Alike(before)
		x.Follows(before)
		before.Follows(x)
		x.Put(new(wire.Out))
		if b := x.Bytes(); len(b) > 0 {
			holdsParse(t, b)
		}
		x.Show()
		before = x
	}
	near(check)
	many(check)
	random := rand.New(rand.NewSource(11))
	for range 20000 {
		x := some()[random.Intn(len(some()))]
		x.ID = mark.ID{Replica: int(random.Uint64()) >> random.Intn(64), Slot: int(random.Uint64()) >> random.Intn(64)}
		x.Status = int(random.Uint64()) >> random.Intn(64)
		x.Bal, x.Vote = mark.Ballot(random.Uint32()>>random.Intn(32)), mark.Ballot(random.Uint32()>>random.Intn(32))
		x.Cmd.Kind = int(random.Uint64()) >> random.Intn(64)
		x.Attr.Deps[random.Intn(7)] = int(random.Uint64()) >> random.Intn(64)
		check(x)
	}
	for range 20000 {
		b := make([]byte, random.Intn(40))
		for n := range b {
			b[n] = byte(random.Intn(256) >> (random.Intn(2) * 5))
		}
		holdsParse(t, b)
		holdsRead(t, string(b))
	}
}

// P1 and P10.2: no bytes make it panic.
func FuzzParse(f *testing.F) {
	for _, x := range some() {
		f.Add(x.Bytes())
	}
	f.Fuzz(func(t *testing.T, b []byte) { holdsParse(t, b) })
}

// P1 and P10.3: no text makes it panic.
func FuzzRead(f *testing.F) {
	for _, x := range some() {
		s, _ := x.Show()
		f.Add(s)
	}
	f.Fuzz(func(t *testing.T, s string) { holdsRead(t, s) })
}
