package msg_test

import (
	"bytes"
	"encoding/binary"
	"fmt"
	"hash/crc32"
	"math"
	"math/rand"
	"regexp"
	"strings"
	"testing"
	"unsafe"

	"moothill/api"
	"moothill/attr"
	"moothill/cmd"
	"moothill/inst"
	"moothill/mark"
	"moothill/msg"
	"moothill/sum"
	"moothill/wire"
)

// lastBallot is the greatest ballot there is: of the last round, and the replica 6.
const lastBallot = (1<<24-1)<<3 | 6

// The instances of which most of the tests' messages are.
var (
	home = mark.ID{Replica: 1, Slot: 2}
	last = mark.ID{Replica: 6, Slot: 1023}
)

// Some commands: of greater each number and each text is the greatest one.
var (
	long    = strings.Repeat("x", 64)
	keep    = cmd.Cmd{Kind: cmd.Keep, Session: cmd.Session{Num: 7, Foot: "a"}, Request: 300, Time: 5}
	acquire = cmd.Cmd{Kind: cmd.Acquire, Session: cmd.Session{Num: 7, Foot: "a"}, Request: 9, Path: "b/c", Mode: cmd.Shared}
	greater = cmd.Cmd{Kind: cmd.Check, Session: cmd.Session{Num: math.MaxUint64, Foot: long}, Request: math.MaxUint64, Path: long, N: 1<<63 - 1}
)

// deps are attributes.
func deps(seq int, l ...int) attr.Attr {
	a := attr.Attr{Seq: seq}
	copy(a.Deps[:], l)
	return a
}

// full are attributes of the last instance, as great as they may be.
var full = deps(1<<30, 1024, 1024, 1024, 1024, 1024, 1024, 1023)

// state is what is known of home.
func state(status int, bal, vote mark.Ballot, c cmd.Cmd) inst.Inst {
	return inst.Inst{ID: home, Status: status, Bal: bal, Vote: vote, Cmd: c, Attr: deps(3, 0, 2)}
}

// own is what home's own replica proposed.
func own() inst.Inst {
	x := state(inst.Pre, 0, 0, keep)
	x.Same = true
	return x
}

// states gives right states, of each status.
func states() []inst.Inst {
	return []inst.Inst{
		{},
		{ID: home},
		{ID: home, Bal: 10},
		own(),
		state(inst.Pre, 0, 0, acquire),
		state(inst.Pre, 10, 0, keep),
		state(inst.Pre, 10, 10, keep),
		state(inst.Accepted, 0, 0, keep),
		state(inst.Accepted, 17, 10, acquire),
		state(inst.Accepted, 10, 10, acquire),
		state(inst.Committed, 0, 0, cmd.Cmd{}),
		state(inst.Committed, 17, 10, acquire),
		state(inst.Committed, 10, 10, keep),
		{ID: last, Status: inst.Committed, Bal: lastBallot, Vote: lastBallot, Cmd: greater, Attr: full},
	}
}

// wrong gives states that may not be.
func wrong() []inst.Inst {
	same := state(inst.Accepted, 0, 0, keep)
	same.Same = true
	return []inst.Inst{
		{ID: mark.ID{Replica: 7}},
		{ID: mark.ID{Slot: -1}},
		{ID: home, Bal: 1},
		{ID: home, Vote: 8},
		{ID: home, Status: 4, Attr: deps(3, 0, 2)},
		{ID: home, Status: -1},
		{ID: home, Status: inst.Pre},
		state(inst.Pre, 0, 10, keep),
		state(inst.Committed, 10, 7, keep),
		state(inst.Accepted, 10, 10, cmd.Cmd{N: 1}),
		same,
	}
}

// some gives right messages of each kind.
func some() []msg.Msg {
	return []msg.Msg{
		{Kind: msg.PreAccept, From: 1, To: 0, ID: home, Known: state(inst.Pre, 0, 0, keep)},
		{Kind: msg.PreAccept, From: 2, To: 6, ID: home, Bal: 10, Known: state(inst.Pre, 10, 10, acquire)},
		{Kind: msg.PreReply, From: 0, To: 1, ID: home, OK: true, Known: own()},
		{Kind: msg.PreReply, From: 0, To: 1, ID: home, Known: state(inst.Pre, 10, 0, acquire)},
		{Kind: msg.PreReply, From: 6, To: 0, ID: home, Bal: 10, Known: inst.Inst{ID: home, Bal: 300}},
		{Kind: msg.Accept, From: 1, To: 4, ID: home, Known: state(inst.Accepted, 0, 0, cmd.Cmd{})},
		{Kind: msg.Accept, From: 0, To: 6, ID: last, Bal: lastBallot, Known: inst.Inst{ID: last, Status: inst.Accepted, Bal: lastBallot, Vote: lastBallot, Cmd: greater, Attr: full}},
		{Kind: msg.AcceptReply, From: 0, To: 1, ID: home, Bal: 10, OK: true, Known: state(inst.Accepted, 10, 10, keep)},
		{Kind: msg.AcceptReply, From: 5, To: 1, ID: home, Bal: 10, Known: state(inst.Committed, 17, 16, keep)},
		{Kind: msg.Commit, From: 1, To: 2, ID: home, Bal: 10, Known: state(inst.Committed, 10, 10, acquire)},
		{Kind: msg.Commit, From: 0, To: 2, Known: inst.Inst{Status: inst.Committed}},
		{Kind: msg.Prepare, From: 2, To: 1, ID: home, Bal: 10},
		{Kind: msg.Prepare, From: 0, To: 1},
		{Kind: msg.Prepare, From: 6, To: 5, ID: last, Bal: lastBallot},
		{Kind: msg.PrepareReply, From: 1, To: 2, ID: home, Bal: 10, OK: true, Known: inst.Inst{ID: home, Bal: 10}},
		{Kind: msg.PrepareReply, From: 0, To: 1, OK: true},
		{Kind: msg.PrepareReply, From: 6, To: 5, ID: last, Bal: 300, Known: inst.Inst{ID: last, Status: inst.Committed, Bal: lastBallot, Vote: lastBallot, Cmd: greater, Attr: full}},
	}
}

// isRight tells, by the chapter's words and layer 10's calls, whether a message may be.
func isRight(m msg.Msg) bool {
	if m.From < 0 || m.From > 6 || m.To < 0 || m.To > 6 || m.From == m.To || !m.ID.Right() || !m.Bal.Right() {
		return false
	}
	x := m.Known
	known := x.Right() && x.ID == m.ID
	switch m.Kind {
	case 1, 3, 5:
		return known && !m.OK && x.Status == map[int]int{1: 1, 3: 2, 5: 3}[m.Kind] && x.Bal == m.Bal && x.Vote == m.Bal && !x.Same
	case 2, 4, 7:
		return known
	case 6:
		return !m.OK && x == inst.Inst{}
	}
	return false
}

// kinds gives the kinds, and numbers that aren't any.
func kinds() []int {
	return []int{1, 2, 3, 4, 5, 6, 7, 0, 8, 9, -1, -2, -3, -6, 255, 256, 257, 262, 1<<32 + 1, 1<<32 + 6, math.MinInt, math.MinInt + 1, math.MaxInt - 1, math.MaxInt}
}

// replicas gives replicas, and numbers that aren't any.
func replicas() []int {
	return []int{0, 1, 2, 5, 6, 7, 8, -1, -7, 255, 256, 257, 1 << 32, 1<<32 + 1, math.MinInt, math.MaxInt}
}

// ballots gives ballots, and numbers that aren't any.
func ballots() []mark.Ballot {
	return []mark.Ballot{0, 1, 7, 8, 9, 10, 14, 15, 16, 17, 127, 128, 136, 300, lastBallot, lastBallot + 1, lastBallot + 2, 1 << 31, math.MaxUint32}
}

// ids gives names of instances, and what aren't any.
func ids() []mark.ID {
	l := []mark.ID{{}, home, {Replica: 2, Slot: 1}, {Replica: 1, Slot: 3}, last, {Replica: 7}, {Replica: 7, Slot: 2}, {Replica: -1}, {Slot: 1024}, {Slot: -1}}
	return append(l, mark.ID{Replica: math.MinInt, Slot: math.MaxInt}, mark.ID{Replica: 257, Slot: 2}, mark.ID{Replica: 1, Slot: 1<<32 + 2})
}

// many goes over messages with some values of each part.
func many(f func(m msg.Msg)) {
	known := append(states(), wrong()...)
	for _, kind := range []int{1, 2, 3, 4, 5, 6, 7, 0, 8, -1, 257} {
		for _, id := range []mark.ID{home, {}, last, {Replica: 7, Slot: 2}} {
			for _, bal := range []mark.Ballot{0, 7, 10, 17, lastBallot} {
				for _, x := range known {
					for _, fromTo := range [][2]int{{0, 1}, {6, 0}, {3, 3}, {7, 1}, {1, -1}} {
						m := msg.Msg{Kind: kind, From: fromTo[0], To: fromTo[1], ID: id, Bal: bal, Known: x}
						f(m)
						m.OK = true
						f(m)
					}
				}
			}
		}
	}
}

// near goes over some messages with one part, or two that belong together, made another one.
func near(f func(m msg.Msg)) {
	for _, m := range some() {
		f(m)
		n := m
		n.OK = !m.OK
		f(n)
		n = m
		n.From, n.To = m.To, m.From
		f(n)
		for _, v := range kinds() {
			n := m
			n.Kind = v
			f(n)
		}
		for _, v := range replicas() {
			n := m
			n.From = v
			f(n)
			n.To = v
			f(n)
			n = m
			n.To = v
			f(n)
		}
		nearParts(m, f)
	}
}

// nearParts goes over a message with its name, ballot or state made another one.
func nearParts(m msg.Msg, f func(m msg.Msg)) {
	for _, v := range ids() {
		n := m
		n.ID = v
		f(n)
		n.Known.ID = v
		f(n)
		n = m
		n.Known.ID = v
		f(n)
	}
	for _, v := range ballots() {
		n := m
		n.Bal = v
		f(n)
		n.Known.Bal = v
		f(n)
		n.Known.Vote = v
		f(n)
		n = m
		n.Known.Bal = v
		f(n)
		n = m
		n.Known.Vote = v
		f(n)
	}
	for s := -1; s < 5; s++ {
		n := m
		n.Known.Status = s
		f(n)
	}
	for _, x := range append(states(), wrong()...) {
		n := m
		n.Known = x
		f(n)
	}
	for _, g := range []func(x *inst.Inst){
		func(x *inst.Inst) { x.Same = !x.Same },
		func(x *inst.Inst) { x.Cmd = acquire },
		func(x *inst.Inst) { x.Cmd = greater },
		func(x *inst.Inst) { x.Cmd.Kind = 9 },
		func(x *inst.Inst) { x.Attr.Seq++ },
		func(x *inst.Inst) { x.Attr.Seq = -1 },
		func(x *inst.Inst) { x.Attr.Deps[0]++ },
		func(x *inst.Inst) { x.Attr.Deps[m.ID.Replica%7]++ },
	} {
		n := m
		g(&n.Known)
		f(n)
	}
}

// P11.1: the kinds' numbers.
func TestNumbers(t *testing.T) {
	l := []int{msg.PreAccept, msg.PreReply, msg.Accept, msg.AcceptReply, msg.Commit, msg.Prepare, msg.PrepareReply}
	for n, k := range l {
		if k != n+1 {
			t.Error(n, k)
		}
	}
}

// P11.1
func TestRight(t *testing.T) {
	for _, m := range some() {
		if !m.Right() {
			t.Errorf("%+v", m)
		}
	}
	yes := map[int]int{}
	check := func(m msg.Msg) {
		if m.Right() != isRight(m) {
			t.Fatalf("%+v %v", m, m.Right())
		}
		if m.Right() {
			yes[m.Kind]++
		}
	}
	many(check)
	near(check)
	for k := 1; k <= 7; k++ {
		if yes[k] < 20 {
			t.Error(k, yes[k])
		}
	}
}

// P11.1: the edges of what a message has.
func TestRightEdges(t *testing.T) {
	none := inst.New(home)
	pre, accepted, committed := state(inst.Pre, 10, 10, keep), state(inst.Accepted, 10, 10, keep), state(inst.Committed, 10, 10, keep)
	same := own()
	for n, x := range []struct {
		m    msg.Msg
		want bool
	}{
		{msg.Msg{}, false},
		// The kind.
		{msg.Msg{Kind: 0, To: 1, ID: home, Bal: 10, Known: none}, false},
		{msg.Msg{Kind: 8, To: 1, ID: home, Bal: 10, Known: none}, false},
		{msg.Msg{Kind: 0, To: 1, ID: home, Bal: 10}, false},
		{msg.Msg{Kind: 8, To: 1, ID: home, Bal: 10}, false},
		// The replicas.
		{msg.Msg{Kind: 6, From: 6, To: 0, ID: home, Bal: 10}, true},
		{msg.Msg{Kind: 6, From: 0, To: 6, ID: home, Bal: 10}, true},
		{msg.Msg{Kind: 6, From: 7, To: 0, ID: home, Bal: 10}, false},
		{msg.Msg{Kind: 6, From: 0, To: 7, ID: home, Bal: 10}, false},
		{msg.Msg{Kind: 6, From: -1, To: 0, ID: home, Bal: 10}, false},
		{msg.Msg{Kind: 6, From: 0, To: -1, ID: home, Bal: 10}, false},
		{msg.Msg{Kind: 6, From: 3, To: 3, ID: home, Bal: 10}, false},
		{msg.Msg{Kind: 6, From: 0, To: 0, ID: home, Bal: 10}, false},
		{msg.Msg{Kind: 7, From: 6, To: 6, ID: home, Bal: 10, Known: none}, false},
		{msg.Msg{Kind: 5, From: 1, To: 1, ID: home, Bal: 10, Known: committed}, false},
		// The name and the ballot.
		{msg.Msg{Kind: 6, To: 1, ID: last, Bal: lastBallot}, true},
		{msg.Msg{Kind: 6, To: 1, ID: mark.ID{Slot: 1024}, Bal: 10}, false},
		{msg.Msg{Kind: 6, To: 1, ID: mark.ID{Replica: 7}, Bal: 10}, false},
		{msg.Msg{Kind: 6, To: 1, ID: mark.ID{Slot: -1}, Bal: 10}, false},
		{msg.Msg{Kind: 6, To: 1, ID: home, Bal: lastBallot + 1}, false},
		{msg.Msg{Kind: 6, To: 1, ID: home, Bal: 1}, false},
		{msg.Msg{Kind: 7, To: 1, ID: home, Bal: 7, Known: none}, false},
		{msg.Msg{Kind: 7, To: 1, ID: mark.ID{Replica: 7}, Known: inst.New(mark.ID{Replica: 7})}, false},
		// A Prepare has nothing known.
		{msg.Msg{Kind: 6, To: 1}, true},
		{msg.Msg{Kind: 6, To: 1, OK: true}, false},
		{msg.Msg{Kind: 6, To: 1, ID: home, Bal: 10, Known: none}, false},
		{msg.Msg{Kind: 6, To: 1, ID: home, Bal: 10, Known: inst.Inst{Bal: 10}}, false},
		{msg.Msg{Kind: 6, To: 1, ID: home, Bal: 10, Known: inst.Inst{Same: true}}, false},
		{msg.Msg{Kind: 6, To: 1, ID: home, Bal: 10, Known: inst.Inst{Attr: deps(1)}}, false},
		{msg.Msg{Kind: 6, To: 1, ID: home, Bal: 10, Known: committed}, false},
		// Others: a right state of the ID.
		{msg.Msg{Kind: 7, To: 1, ID: home, Bal: 10}, false},
		{msg.Msg{Kind: 7, To: 1, ID: home, Bal: 10, Known: inst.New(mark.ID{Replica: 1, Slot: 3})}, false},
		{msg.Msg{Kind: 7, To: 1, ID: home, Bal: 10, Known: inst.New(mark.ID{Replica: 2, Slot: 2})}, false},
		{msg.Msg{Kind: 7, To: 1, ID: home, Bal: 10, Known: inst.Inst{ID: home, Bal: 7}}, false},
		{msg.Msg{Kind: 2, To: 1, ID: home, Bal: 10, Known: inst.Inst{ID: home, Status: 1}}, false},
		{msg.Msg{Kind: 1, To: 1, Bal: 10, Known: pre}, false},
		// A reply has whatever is known, and OK or not.
		{msg.Msg{Kind: 2, To: 1, ID: home, Bal: 10, OK: true, Known: none}, true},
		{msg.Msg{Kind: 2, To: 1, ID: home, Bal: 10, Known: committed}, true},
		{msg.Msg{Kind: 2, To: 1, ID: home, Bal: 10, OK: true, Known: same}, true},
		{msg.Msg{Kind: 4, To: 1, ID: home, Bal: 10, OK: true, Known: same}, true},
		{msg.Msg{Kind: 7, To: 1, ID: home, Bal: 10, OK: true, Known: same}, true},
		{msg.Msg{Kind: 4, To: 1, ID: home, Bal: 17, Known: pre}, true},
		{msg.Msg{Kind: 7, To: 1, ID: home, Bal: 8, OK: true, Known: accepted}, true},
		// PreAccept, Accept and Commit: the kind's Status, the message's Bal, without Same and OK.
		{msg.Msg{Kind: 1, To: 1, ID: home, Bal: 10, Known: pre}, true},
		{msg.Msg{Kind: 3, To: 1, ID: home, Bal: 10, Known: accepted}, true},
		{msg.Msg{Kind: 5, To: 1, ID: home, Bal: 10, Known: committed}, true},
		{msg.Msg{Kind: 1, To: 1, ID: home, Bal: 10, OK: true, Known: pre}, false},
		{msg.Msg{Kind: 3, To: 1, ID: home, Bal: 10, OK: true, Known: accepted}, false},
		{msg.Msg{Kind: 5, To: 1, ID: home, Bal: 10, OK: true, Known: committed}, false},
		{msg.Msg{Kind: 1, To: 1, ID: home, Bal: 10, Known: accepted}, false},
		{msg.Msg{Kind: 3, To: 1, ID: home, Bal: 10, Known: pre}, false},
		{msg.Msg{Kind: 3, To: 1, ID: home, Bal: 10, Known: committed}, false},
		{msg.Msg{Kind: 5, To: 1, ID: home, Bal: 10, Known: accepted}, false},
		{msg.Msg{Kind: 1, To: 1, ID: home, Known: none}, false},
		{msg.Msg{Kind: 1, To: 1, ID: home, Known: same}, false},
		{msg.Msg{Kind: 1, To: 1, ID: home, Known: state(1, 0, 0, keep)}, true},
		{msg.Msg{Kind: 1, To: 1, ID: home, Bal: 17, Known: pre}, false},
		{msg.Msg{Kind: 1, To: 1, ID: home, Bal: 8, Known: pre}, false},
		{msg.Msg{Kind: 3, To: 1, ID: home, Bal: 10, Known: state(2, 10, 8, keep)}, false},
		{msg.Msg{Kind: 3, To: 1, ID: home, Bal: 8, Known: state(2, 10, 8, keep)}, false},
		{msg.Msg{Kind: 5, To: 1, ID: home, Bal: 10, Known: state(3, 10, 8, keep)}, false},
		{msg.Msg{Kind: 5, To: 1, ID: home, Bal: 8, Known: state(3, 10, 8, keep)}, false},
		{msg.Msg{Kind: 5, To: 1, ID: home, Bal: 10, Known: state(3, 10, 0, keep)}, false},
	} {
		if got := x.m.Right(); got != x.want || isRight(x.m) != x.want {
			t.Errorf("%d %+v %v", n, x.m, got)
		}
	}
}

// seal is bytes and their sum, the least byte first.
func seal(b string) []byte {
	return binary.LittleEndian.AppendUint32([]byte(b), crc32.ChecksumIEEE([]byte(b)))
}

// partsOf gives a right message's bytes ahead of their sum, part by part.
func partsOf(m msg.Msg) string {
	b := []byte{byte(m.Kind), byte(m.From), byte(m.To), byte(m.ID.Replica)}
	b = binary.AppendUvarint(b, uint64(m.ID.Slot))
	b = binary.AppendUvarint(b, uint64(m.Bal))
	if m.OK {
		b = append(b, 1)
	} else {
		b = append(b, 0)
	}
	if m.Kind != 6 {
		b = append(b, m.Known.Bytes()...)
	}
	return string(b)
}

// P11.1: frames written out, the chapter's example among them.
func TestFrameOfSome(t *testing.T) {
	const keep7 = "\x03\x00\x00\x00\x00\x00\x00\x00\x07\x01a\xac\x02\x05"
	for n, x := range []struct {
		m msg.Msg
		b string
	}{
		{msg.Msg{Kind: msg.Prepare, From: 2, To: 1, ID: home, Bal: 10}, "\x06\x02\x01\x01\x02\x0a\x00"},
		{msg.Msg{Kind: msg.Prepare, From: 2, To: 1, ID: mark.ID{Replica: 1, Slot: 127}, Bal: 10}, "\x06\x02\x01\x01\x7f\x0a\x00"},
		{msg.Msg{Kind: msg.Prepare, From: 6, To: 5, ID: last, Bal: 300}, "\x06\x06\x05\x06\xff\x07\xac\x02\x00"},
		{msg.Msg{Kind: msg.PrepareReply, From: 1, To: 2, ID: home, Bal: 10, OK: true, Known: inst.New(home)}, "\x07\x01\x02\x01\x02\x0a\x01\x01\x02\x00\x00"},
		{msg.Msg{Kind: msg.PrepareReply, From: 1, To: 2, ID: home, Bal: 10, Known: inst.Inst{ID: home, Bal: 17}}, "\x07\x01\x02\x01\x02\x0a\x00\x01\x02\x11\x00"},
		{msg.Msg{Kind: msg.PreAccept, From: 1, To: 0, ID: home, Known: state(1, 0, 0, keep)}, "\x01\x01\x00\x01\x02\x00\x00\x01\x02\x00\x01\x00\x00" + keep7 + "\x03\x00\x02\x00\x00\x00\x00\x00"},
		{msg.Msg{Kind: msg.PreReply, From: 0, To: 1, ID: home, OK: true, Known: own()}, "\x02\x00\x01\x01\x02\x00\x01\x01\x02\x00\x01\x00\x01" + keep7 + "\x03\x00\x02\x00\x00\x00\x00\x00"},
		{msg.Msg{Kind: msg.Accept, From: 1, To: 0, ID: home, Bal: 10, Known: state(2, 10, 10, keep)}, "\x03\x01\x00\x01\x02\x0a\x00\x01\x02\x0a\x02\x0a\x00" + keep7 + "\x03\x00\x02\x00\x00\x00\x00\x00"},
		{msg.Msg{Kind: msg.AcceptReply, From: 0, To: 1, ID: home, Bal: 10, Known: state(2, 17, 10, cmd.Cmd{})}, "\x04\x00\x01\x01\x02\x0a\x00\x01\x02\x11\x02\x0a\x00\x00\x03\x00\x02\x00\x00\x00\x00\x00"},
		{msg.Msg{Kind: msg.Commit, From: 4, To: 0, ID: home, Bal: 10, Known: state(3, 10, 10, cmd.Cmd{})}, "\x05\x04\x00\x01\x02\x0a\x00\x01\x02\x0a\x03\x0a\x00\x00\x03\x00\x02\x00\x00\x00\x00\x00"},
	} {
		if got := x.m.Frame(); !bytes.Equal(got, seal(x.b)) {
			t.Errorf("%d %x", n, got)
		}
		if got, e := msg.Open(seal(x.b)); got != x.m || e != api.OK {
			t.Errorf("%d %+v %v", n, got, e)
		}
	}
	if n := len(msg.Ask(msg.Prepare, 2, 1, 10, inst.New(home)).Frame()); n != 11 {
		t.Error(n)
	}
}

// P11.1: a right message comes back from its frame; another one has none.
func TestFrame(t *testing.T) {
	most := 0
	check := func(m msg.Msg) {
		got := m.Frame()
		if !isRight(m) {
			if len(got) != 0 {
				t.Fatalf("%+v %x", m, got)
			}
			return
		}
		if !bytes.Equal(got, seal(partsOf(m))) {
			t.Fatalf("%+v %x", m, got)
		}
		if n, e := msg.Open(got); n != m || e != api.OK {
			t.Fatalf("%+v %+v %v", m, n, e)
		}
		most = max(most, len(got))
	}
	many(check)
	near(check)
	// Each right message's frame has room: the greatest one's, too.
	if most > api.MaxFrame || most < 200 {
		t.Error(most)
	}
}

// isRefused tells that a sealed text is refused by an error.
func isRefused(t *testing.T, b string, e api.Errno) {
	t.Helper()
	if m, got := msg.Open(seal(b)); m != (msg.Msg{}) || got != e {
		t.Errorf("%x %+v %v not %v", b, m, got, e)
	}
	if _, got := open(seal(b)); got != e {
		t.Errorf("%x is %v not %v", b, got, e)
	}
}

// P11.1
func TestOpenWrong(t *testing.T) {
	const noop, attrs = "\x00", "\x03\x00\x02\x00\x00\x00\x00\x00"
	for _, x := range []struct {
		b string
		e api.Errno
	}{
		// The kind.
		{"", api.ErrShort},
		{"\x00", api.ErrKind},
		{"\x08", api.ErrKind},
		{"\xff", api.ErrKind},
		{"\x86\x02\x01\x01\x02\x0a\x00", api.ErrKind},
		{"\x00\x07\x07", api.ErrKind},
		{"\x08\x02\x01\x01\x02\x0a\x00", api.ErrKind},
		{"\x00\x02\x01\x01\x02\x0a\x00\x01\x02\x00\x00", api.ErrKind},
		// The replicas: ErrShort ahead of ErrRange.
		{"\x06", api.ErrShort},
		{"\x06\x02", api.ErrShort},
		{"\x06\x07", api.ErrShort},
		{"\x01\xff", api.ErrShort},
		{"\x06\x07\x00", api.ErrRange},
		{"\x06\x00\x07", api.ErrRange},
		{"\x06\xff\xff", api.ErrRange},
		{"\x06\x07\x01\x01\x02\x0a\x00", api.ErrRange},
		{"\x06\x02\x07\x01\x02\x0a\x00", api.ErrRange},
		{"\x06\x82\x01\x01\x02\x0a\x00", api.ErrRange},
		{"\x06\x07\x07\x07\x02\x01\x02", api.ErrRange},
		{"\x06\x02\x07\x01\x02\x01\x02", api.ErrRange},
		{"\x06\x02\x07\x01\x02\x0a\x00\x00", api.ErrRange},
		// The name.
		{"\x06\x02\x01", api.ErrShort},
		{"\x06\x02\x01\x07", api.ErrRange},
		{"\x06\x02\x01\x07\x02\x0a\x00", api.ErrRange},
		{"\x06\x02\x01\x01", api.ErrShort},
		{"\x06\x02\x01\x01\x80\x08\x0a\x00", api.ErrRange},
		{"\x06\x02\x01\x01\x82\x00\x0a\x00", api.ErrForm},
		// The ballot.
		{"\x06\x02\x01\x01\x02", api.ErrShort},
		{"\x06\x02\x01\x01\x02\x01\x00", api.ErrBallot},
		{"\x06\x02\x01\x01\x02\x0f\x00", api.ErrBallot},
		{"\x06\x02\x01\x01\x02\x0f\x02", api.ErrBallot},
		{"\x06\x02\x01\x01\x02\x80\x80\x80\x80\x10\x00", api.ErrRange},
		{"\x06\x02\x01\x01\x02\x8a\x00\x00", api.ErrForm},
		// OK.
		{"\x06\x02\x01\x01\x02\x0a", api.ErrShort},
		{"\x06\x02\x01\x01\x02\x0a\x02", api.ErrForm},
		{"\x06\x02\x01\x01\x02\x0a\x02\x00", api.ErrForm},
		{"\x07\x02\x01\x01\x02\x0a\xff\x07", api.ErrForm},
		{"\x06\x02\x01\x01\x02\x0a\x01", api.ErrForm},
		{"\x01\x02\x01\x01\x02\x0a\x01\x01\x02\x0a\x01\x0a\x00" + noop + attrs, api.ErrForm},
		{"\x03\x02\x01\x01\x02\x0a\x01\x01\x02\x0a\x02\x0a\x00" + noop + attrs, api.ErrForm},
		{"\x05\x02\x01\x01\x02\x0a\x01\x01\x02\x0a\x03\x0a\x00" + noop + attrs, api.ErrForm},
		// What is known, by layer 10's errors.
		{"\x07\x02\x01\x01\x02\x0a\x00", api.ErrShort},
		{"\x07\x02\x01\x01\x02\x0a\x00\x07", api.ErrRange},
		{"\x07\x02\x01\x01\x02\x0a\x00\x01\x02", api.ErrShort},
		{"\x07\x02\x01\x01\x02\x0a\x00\x01\x02\x01\x00", api.ErrBallot},
		{"\x07\x02\x01\x01\x02\x0a\x00\x01\x02\x00\x04", api.ErrKind},
		{"\x07\x02\x01\x01\x02\x0a\x00\x01\x02\x00\x01\x08\x00" + noop + attrs, api.ErrForm},
		{"\x07\x02\x01\x01\x02\x0a\x00\x01\x02\x0a\x02\x0a\x01" + noop + attrs, api.ErrForm},
		{"\x02\x02\x01\x01\x02\x0a\x00\x01\x02\x0a\x01\x0a\x00\x09" + attrs, api.ErrKind},
		{"\x02\x02\x01\x01\x02\x0a\x00\x01\x02\x0a\x01\x0a\x00" + noop + attrs[:7], api.ErrShort},
		{"\x02\x02\x01\x01\x02\x0a\x00\x01\x02\x0a\x01\x0a\x00" + noop + "\x03\x00\x03\x00\x00\x00\x00\x00", api.ErrForm},
		// A state that isn't right is a part's error, ahead of ErrLong.
		{"\x07\x02\x01\x01\x02\x0a\x00\x01\x02\x00\x01\x08\x00" + noop + attrs + "\x00", api.ErrForm},
		// Bytes that are left, ahead of a message that isn't right.
		{"\x06\x02\x01\x01\x02\x0a\x00\x00", api.ErrLong},
		{"\x06\x02\x01\x01\x02\x0a\x00\x01\x02\x00\x00", api.ErrLong},
		{"\x06\x02\x02\x01\x02\x0a\x00\x00", api.ErrLong},
		{"\x06\x02\x01\x01\x02\x0a\x01\x00", api.ErrLong},
		{"\x07\x01\x01\x01\x02\x0a\x00\x01\x02\x00\x00\x00", api.ErrLong},
		{"\x07\x02\x01\x01\x02\x0a\x00\x01\x03\x00\x00\x00", api.ErrLong},
		{"\x01\x02\x01\x01\x02\x0a\x00\x01\x02\x00\x00\x00", api.ErrLong},
		// A message that isn't right.
		{"\x06\x02\x02\x01\x02\x0a\x00", api.ErrForm},
		{"\x06\x00\x00\x01\x02\x0a\x00", api.ErrForm},
		{"\x07\x01\x01\x01\x02\x0a\x00\x01\x02\x00\x00", api.ErrForm},
		{"\x07\x02\x01\x01\x02\x0a\x00\x01\x03\x00\x00", api.ErrForm},
		{"\x07\x02\x01\x01\x02\x0a\x00\x00\x02\x00\x00", api.ErrForm},
		{"\x01\x02\x01\x01\x02\x00\x00\x01\x02\x00\x00", api.ErrForm},
		{"\x03\x02\x01\x01\x02\x00\x00\x01\x02\x00\x00", api.ErrForm},
		{"\x05\x02\x01\x01\x02\x00\x00\x01\x02\x00\x00", api.ErrForm},
		{"\x01\x02\x01\x01\x02\x0a\x00\x01\x02\x0a\x02\x0a\x00" + noop + attrs, api.ErrForm},
		{"\x05\x02\x01\x01\x02\x0a\x00\x01\x02\x0a\x02\x0a\x00" + noop + attrs, api.ErrForm},
		{"\x01\x02\x01\x01\x02\x0a\x00\x01\x02\x0a\x01\x00\x00" + noop + attrs, api.ErrForm},
		{"\x03\x02\x01\x01\x02\x0a\x00\x01\x02\x11\x02\x0a\x00" + noop + attrs, api.ErrForm},
		{"\x05\x02\x01\x01\x02\x11\x00\x01\x02\x11\x03\x0a\x00" + noop + attrs, api.ErrForm},
		{"\x01\x02\x01\x01\x02\x00\x00\x01\x02\x00\x01\x00\x01" + noop + attrs, api.ErrForm},
	} {
		isRefused(t, x.b, x.e)
	}
	// Where none is wrong.
	if m, e := msg.Open(seal("\x01\x02\x01\x01\x02\x0a\x00\x01\x02\x0a\x01\x0a\x00" + noop + attrs)); m != (msg.Msg{Kind: 1, From: 2, To: 1, ID: home, Bal: 10, Known: state(1, 10, 10, cmd.Cmd{})}) || e != api.OK {
		t.Errorf("%+v %v", m, e)
	}
}

// P11.1: each byte as a kind, and as a replica.
func TestOpenEachByte(t *testing.T) {
	for v := range 256 {
		k, r := string([]byte{byte(v)}), string([]byte{byte(v)})
		if v < 1 || v > 7 {
			isRefused(t, k, api.ErrKind)
			isRefused(t, k+strings.Repeat("\x01", 40), api.ErrKind)
		} else {
			isRefused(t, k, api.ErrShort)
			isRefused(t, k+"\x02", api.ErrShort)
			isRefused(t, k+"\x02\x01", api.ErrShort)
		}
		for kind := range 7 {
			k := string([]byte{byte(kind + 1)})
			isRefused(t, k+r, api.ErrShort)
			e := api.ErrShort
			if v > 6 {
				e = api.ErrRange
			}
			isRefused(t, k+r+"\x01", e)
			isRefused(t, k+"\x01"+r, e)
		}
	}
}

// P11.1: what has more bytes than a frame may, whatever they are.
func TestOpenSize(t *testing.T) {
	isSize := func(b []byte) {
		t.Helper()
		if m, e := msg.Open(b); m != (msg.Msg{}) || e != api.ErrSize {
			t.Errorf("%d %+v %v", len(b), m, e)
		}
	}
	prepare := partsOf(some()[11])
	for _, n := range []int{513, 514, 1024, 1 << 20} {
		isSize(make([]byte, n))
		isSize(seal(strings.Repeat("\x00", n-4)))
		isSize(seal(prepare + strings.Repeat("\x00", n-4-len(prepare))))
	}
	for n := len(prepare) + 1; n <= 508; n++ {
		isRefused(t, prepare+strings.Repeat("\x00", n-len(prepare)), api.ErrLong)
	}
	for _, n := range []int{511, 512} {
		if m, e := msg.Open(bytes.Repeat([]byte{1}, n)); m != (msg.Msg{}) || e != api.ErrSum {
			t.Error(n, m, e)
		}
	}
	// A great list with few bytes in use.
	if m, e := msg.Open(append(make([]byte, 0, 4096), some()[11].Frame()...)); m != some()[11] || e != api.OK {
		t.Error(m, e)
	}
}

// P11.1: layer 2's errors, ahead of all that stands in the bytes.
func TestOpenSum(t *testing.T) {
	for n := range 4 {
		if m, e := msg.Open(make([]byte, n)); m != (msg.Msg{}) || e != api.ErrShort {
			t.Error(n, m, e)
		}
	}
	if m, e := msg.Open(nil); m != (msg.Msg{}) || e != api.ErrShort {
		t.Error(m, e)
	}
	// The sum of nothing is 0.
	if m, e := msg.Open(make([]byte, 4)); m != (msg.Msg{}) || e != api.ErrShort {
		t.Error(m, e)
	}
	for _, m := range some() {
		b := m.Frame()
		for bit := range len(b) * 8 {
			d := bytes.Clone(b)
			d[bit/8] ^= 1 << (bit % 8)
			if got, e := msg.Open(d); got != (msg.Msg{}) || e != api.ErrSum {
				t.Fatalf("%+v %d %+v %v", m, bit, got, e)
			}
		}
		for n := 4; n < len(b); n++ {
			if got, e := msg.Open(b[:n]); got != (msg.Msg{}) || e != api.ErrSum {
				t.Fatalf("%+v %d %+v %v", m, n, got, e)
			}
		}
		if got, e := msg.Open(append(bytes.Clone(b), 0)); got != (msg.Msg{}) || e != api.ErrSum {
			t.Fatalf("%+v %+v %v", m, got, e)
		}
		if got, e := msg.Open([]byte(partsOf(m))); got != (msg.Msg{}) || e != api.ErrSum {
			t.Fatalf("%+v %+v %v", m, got, e)
		}
	}
}

// P11.1: sealed bytes that are cut anywhere, or with more behind them.
func TestOpenCut(t *testing.T) {
	for _, m := range some() {
		b := partsOf(m)
		for n := range len(b) {
			isRefused(t, b[:n], api.ErrShort)
		}
		for _, more := range []string{"\x00", "\xff", strings.Repeat("\x01", 100), b} {
			isRefused(t, b+more, api.ErrLong)
		}
	}
}

// open is a frame's message, by the chapter's words and the calls of the layers below.
func open(b []byte) (msg.Msg, api.Errno) {
	if len(b) > 512 {
		return msg.Msg{}, api.ErrSize
	}
	p, e := sum.Open(b)
	if e != api.OK {
		return msg.Msg{}, e
	}
	switch {
	case len(p) < 1:
		return msg.Msg{}, api.ErrShort
	case p[0] < 1 || p[0] > 7:
		return msg.Msg{}, api.ErrKind
	case len(p) < 3:
		return msg.Msg{}, api.ErrShort
	case p[1] > 6 || p[2] > 6:
		return msg.Msg{}, api.ErrRange
	}
	in := wire.NewIn(p[3:])
	m := msg.Msg{Kind: int(p[0]), From: int(p[1]), To: int(p[2]), ID: mark.TakeID(in), Bal: mark.TakeBallot(in), OK: in.Truth()}
	if m.Kind != 6 {
		m.Known = inst.Take(in)
	}
	switch {
	case in.Failed():
		return msg.Msg{}, in.End()
	case in.Left() > 0:
		return msg.Msg{}, api.ErrLong
	case !isRight(m):
		return msg.Msg{}, api.ErrForm
	}
	return m, api.OK
}

// holdsOpen holds Open against the chapter's words, and a message that is told against its own frame.
func holdsOpen(t *testing.T, b []byte) {
	t.Helper()
	want, e := open(b)
	got, err := msg.Open(b)
	if got != want || err != e {
		t.Fatalf("%x %+v %v not %+v %v", b, got, err, want, e)
	}
	if e == api.OK && !bytes.Equal(got.Frame(), b) {
		t.Fatalf("%x %+v %x", b, got, got.Frame())
	}
}

// P11.1: right messages' bytes with some bytes made other ones, left out, or put between, sealed; and random ones.
func TestOpenSpoilt(t *testing.T) {
	for _, m := range some() {
		b := partsOf(m)
		for at := range len(b) {
			for v := range 256 {
				holdsOpen(t, seal(b[:at]+string([]byte{byte(v)})+b[at+1:]))
				holdsOpen(t, seal(b[:at]+string([]byte{byte(v)})+b[at:]))
			}
			holdsOpen(t, seal(b[:at]+b[at+1:]))
		}
	}
	random := rand.New(rand.NewSource(11))
	for range 50000 {
		b := make([]byte, random.Intn(28))
		for n := range b {
			b[n] = "\x00\x00\x00\x01\x01\x02\x02\x03\x04\x05\x06\x07\x08\x0a\x10a\x80\xff"[random.Intn(18)]
		}
		holdsOpen(t, seal(string(b)))
		holdsOpen(t, b)
	}
}

// P11.1: what is sealed, part by part of right and wrong ones.
func TestOpenAgainstTheChapter(t *testing.T) {
	random := rand.New(rand.NewSource(111))
	pick := func(l ...string) string { return l[random.Intn(len(l))>>random.Intn(2)] }
	opened := map[int]int{}
	for range 100000 {
		b := string([]byte{byte(random.Intn(9)), byte(random.Intn(8)), byte(random.Intn(8))})
		b += pick("\x01\x02", "\x01\x02", "\x00\x00", "\x07\x02", "\x01\x80\x08") + pick("\x00", "\x0a", "\x0a", "\x11", "\x01")
		b += pick("\x00", "\x01", "\x02")
		if random.Intn(4) > 0 {
			b += pick("\x01\x02", "\x01\x02", "\x00\x00", "\x07\x02") + pick("\x00", "\x0a", "\x0a", "\x11", "\x01") + pick("\x00", "\x01", "\x02", "\x03", "\x04")
			if random.Intn(4) > 0 {
				b += pick("\x00", "\x0a", "\x0a", "\x11", "\x01") + pick("\x00", "\x00", "\x00", "\x01", "\x02") + pick(keepBytes, "\x00", "\x09")
				b += pick("\x03\x00\x02\x00\x00\x00\x00\x00", "\x03\x00\x02\x00\x00\x00\x00\x00", "\x00\x00\x00\x00\x00\x00\x00\x00", "\x03")
			}
		}
		f := seal(b)
		holdsOpen(t, f)
		m, e := msg.Open(f)
		if e == api.OK {
			opened[m.Kind]++
		}
	}
	for k := 1; k <= 7; k++ {
		if opened[k] < 5 {
			t.Error(k, opened[k])
		}
	}
}

// keepBytes are a Keep's bytes.
const keepBytes = "\x03\x00\x00\x00\x00\x00\x00\x00\x07\x01a\xac\x02\x05"

// halved is the status that a kind asks for, by the chapter's words, of numbers from -1 on.
func halved(kind int) int {
	if kind > 5 {
		return 3
	}
	return (kind + 1) / 2
}

// P11.2: whatever is handed in, right or not.
func TestAsk(t *testing.T) {
	known := append(states(), wrong()...)
	for _, kind := range kinds() {
		if kind < -1 {
			continue
		}
		for _, from := range replicas() {
			for _, to := range replicas() {
				for _, bal := range []mark.Ballot{0, 7, 10, math.MaxUint32} {
					for _, x := range known {
						want := msg.Msg{Kind: kind, From: from, To: to, ID: x.ID, Bal: bal}
						if kind != 6 {
							want.Known = inst.Inst{ID: x.ID, Status: halved(kind), Bal: bal, Vote: bal, Cmd: x.Cmd, Attr: x.Attr}
						}
						if got := msg.Ask(kind, from, to, bal, x); got != want {
							t.Fatalf("%+v %+v", got, want)
						}
					}
				}
			}
		}
	}
}

// P11.2: the status that each kind asks for.
func TestAskStatus(t *testing.T) {
	x := state(inst.Pre, 17, 10, keep)
	for kind, want := range map[int]int{-1: 0, 0: 0, 1: 1, 2: 1, 3: 2, 4: 2, 5: 3, 7: 3, 8: 3, 9: 3, 100: 3, math.MaxInt - 1: 3, math.MaxInt: 3} {
		if got := msg.Ask(kind, 0, 1, 16, x); got.Known != state(want, 16, 16, keep) || got.Kind != kind {
			t.Errorf("%d %+v", kind, got)
		}
	}
	if got := msg.Ask(msg.Prepare, 0, 1, 16, x); got != (msg.Msg{Kind: 6, To: 1, ID: home, Bal: 16}) {
		t.Errorf("%+v", got)
	}
	// Same goes, Bal and Vote are the message's.
	if got := msg.Ask(msg.PreAccept, 0, 1, 0, own()); got.Known != state(1, 0, 0, keep) || !got.Right() {
		t.Errorf("%+v", got)
	}
	if got := msg.Ask(msg.Commit, 0, 1, 8, state(2, 17, 17, keep)); got.Known != state(3, 8, 8, keep) || !got.Right() {
		t.Errorf("%+v", got)
	}
}

// P11.2: what is asked of a right state with a value is right, of each kind that asks.
func TestAskRight(t *testing.T) {
	for _, x := range states() {
		for _, bal := range []mark.Ballot{0, 8, 10, lastBallot} {
			for _, kind := range []int{1, 3, 5} {
				m := msg.Ask(kind, 2, 3, bal, x)
				if !m.Known.Alike(x) || m.Right() != isRight(m) || x.Status != inst.None && !m.Right() {
					t.Errorf("%+v", m)
				}
			}
			if m := msg.Ask(msg.Prepare, 2, 3, bal, x); !m.Right() {
				t.Errorf("%+v", m)
			}
		}
	}
}

// P11.2: whatever is handed in, right or not.
func TestReply(t *testing.T) {
	known := append(states(), wrong()...)
	check := func(m msg.Msg) {
		if m.Kind == math.MaxInt {
			return
		}
		for n, x := range known {
			ok := n%2 == 0
			want := msg.Msg{Kind: m.Kind + 1, From: m.To, To: m.From, ID: m.ID, Bal: m.Bal, OK: ok, Known: x}
			if got := m.Reply(ok, x); got != want {
				t.Fatalf("%+v %+v", got, want)
			}
			want.OK = !ok
			if got := m.Reply(!ok, x); got != want {
				t.Fatalf("%+v %+v", got, want)
			}
		}
	}
	near(check)
}

// P11.2: of right m and x a reply to a PreAccept, an Accept or a Prepare is right, if x's ID is m's.
func TestReplyRight(t *testing.T) {
	yes := 0
	check := func(m msg.Msg) {
		if !isRight(m) {
			return
		}
		for _, x := range append(states(), wrong()...) {
			for _, ok := range []bool{false, true} {
				r := m.Reply(ok, x)
				if r.Right() != isRight(r) {
					t.Fatalf("%+v to %+v: %v", r, m, r.Right())
				}
				if m.Kind != 1 && m.Kind != 3 && m.Kind != 6 {
					continue
				}
				want := x.Right() && x.ID == m.ID
				if r.Right() != want {
					t.Fatalf("%+v to %+v: %v", r, m, r.Right())
				}
				if want {
					yes++
				}
			}
		}
	}
	near(check)
	if yes < 1000 {
		t.Error(yes)
	}
	m := msg.Ask(msg.Prepare, 2, 1, 10, inst.New(home))
	if r := m.Reply(true, own()); r != (msg.Msg{Kind: msg.PrepareReply, From: 1, To: 2, ID: home, Bal: 10, OK: true, Known: own()}) || !r.Right() {
		t.Errorf("%+v", r)
	}
}

// names are the kinds' names, in small letters.
var names = []string{"", "preaccept", "prereply", "accept", "acceptreply", "commit", "prepare", "preparereply"}

// textOf is a right message's text, part by part.
func textOf(m msg.Msg) string {
	s := fmt.Sprintf("%s %d>%d %d.%d %d.%d ", names[m.Kind], m.From, m.To, m.ID.Replica, m.ID.Slot, m.Bal>>3, m.Bal&7)
	if m.Kind == 6 {
		return s + "asks"
	}
	what := "asks"
	if m.Kind == 2 || m.Kind == 4 || m.Kind == 7 {
		what = map[bool]string{false: "no", true: "yes"}[m.OK]
	}
	x, _ := m.Known.Show()
	return s + what + " " + x
}

// P11.3: texts written out.
func TestShowSome(t *testing.T) {
	const value = " 3|0,2,0,0,0,0,0 keep num=7 foot=a request=300 time=5"
	for n, x := range []struct {
		m msg.Msg
		s string
	}{
		{msg.Msg{Kind: msg.Prepare, From: 2, To: 1, ID: home, Bal: 10}, "prepare 2>1 1.2 1.2 asks"},
		{msg.Msg{Kind: msg.Prepare, From: 6, To: 0, ID: last, Bal: lastBallot}, "prepare 6>0 6.1023 16777215.6 asks"},
		{msg.Msg{Kind: msg.PrepareReply, From: 1, To: 2, ID: home, Bal: 10, OK: true, Known: inst.New(home)}, "preparereply 1>2 1.2 1.2 yes 1.2 0.0 none"},
		{msg.Msg{Kind: msg.PrepareReply, From: 1, To: 2, ID: home, Bal: 10, Known: inst.Inst{ID: home, Bal: 17}}, "preparereply 1>2 1.2 1.2 no 1.2 2.1 none"},
		{msg.Msg{Kind: msg.PreAccept, From: 1, To: 0, ID: home, Known: state(1, 0, 0, keep)}, "preaccept 1>0 1.2 0.0 asks 1.2 0.0 pre 0.0 other" + value},
		{msg.Msg{Kind: msg.PreReply, From: 0, To: 1, ID: home, OK: true, Known: own()}, "prereply 0>1 1.2 0.0 yes 1.2 0.0 pre 0.0 same" + value},
		{msg.Msg{Kind: msg.PreReply, From: 0, To: 1, ID: home, Known: own()}, "prereply 0>1 1.2 0.0 no 1.2 0.0 pre 0.0 same" + value},
		{msg.Msg{Kind: msg.Accept, From: 1, To: 0, ID: home, Bal: 10, Known: state(2, 10, 10, keep)}, "accept 1>0 1.2 1.2 asks 1.2 1.2 accepted 1.2 other" + value},
		{msg.Msg{Kind: msg.AcceptReply, From: 0, To: 1, ID: home, Bal: 10, OK: true, Known: state(2, 17, 10, cmd.Cmd{})}, "acceptreply 0>1 1.2 1.2 yes 1.2 2.1 accepted 1.2 other 3|0,2,0,0,0,0,0 noop"},
		{msg.Msg{Kind: msg.Commit, From: 4, To: 0, ID: home, Bal: 10, Known: state(3, 10, 10, cmd.Cmd{})}, "commit 4>0 1.2 1.2 asks 1.2 1.2 committed 1.2 other 3|0,2,0,0,0,0,0 noop"},
	} {
		if s, e := x.m.Show(); s != x.s || e != api.OK {
			t.Error(n, s, e)
		}
		if got, e := msg.Read(x.s); got != x.m || e != api.OK {
			t.Errorf("%d %+v %v", n, got, e)
		}
	}
}

// P11.3: a right message comes back from its text; another one has none; each has one of its own.
func TestShow(t *testing.T) {
	owner := map[string]msg.Msg{}
	check := func(m msg.Msg) {
		s, e := m.Show()
		if !isRight(m) {
			if s != "" || e != api.ErrForm {
				t.Fatalf("%+v %q %v", m, s, e)
			}
			return
		}
		if s != textOf(m) || e != api.OK {
			t.Fatalf("%+v %q %v", m, s, e)
		}
		if got, e := msg.Read(s); got != m || e != api.OK {
			t.Fatalf("%+v %q %+v %v", m, s, got, e)
		}
		if was, ok := owner[s]; ok && was != m {
			t.Fatal(s, was, m)
		}
		owner[s] = m
	}
	many(check)
	near(check)
}

var (
	prepareForm = regexp.MustCompile(`\Aprepare ([0-6])>([0-6]) ([^ ]*) ([^ ]*) asks\z`)
	askForm     = regexp.MustCompile(`(?s)\A(preaccept|accept|commit) ([0-6])>([0-6]) ([^ ]*) ([^ ]*) (asks) (.*)\z`)
	replyForm   = regexp.MustCompile(`(?s)\A(prereply|acceptreply|preparereply) ([0-6])>([0-6]) ([^ ]*) ([^ ]*) (yes|no) (.*)\z`)
)

// readOf is the message of a text, by the chapter's words and the calls of the layers below.
func readOf(s string) (msg.Msg, bool) {
	var m msg.Msg
	var e [3]api.Errno
	l := askForm.FindStringSubmatch(s)
	if l == nil {
		l = replyForm.FindStringSubmatch(s)
	}
	if l == nil {
		l = prepareForm.FindStringSubmatch(s)
		if l == nil {
			return msg.Msg{}, false
		}
		l = append([]string{"", "prepare"}, l[1:]...)
	}
	for k, n := range names {
		if n == l[1] {
			m.Kind = k
		}
	}
	m.From, m.To = int(l[2][0]-'0'), int(l[3][0]-'0')
	m.ID, e[0] = mark.ReadID(l[4])
	m.Bal, e[1] = mark.ReadBallot(l[5])
	if m.Kind != 6 {
		m.OK = l[6] == "yes"
		m.Known, e[2] = inst.Read(l[7])
	}
	if e != [3]api.Errno{} || !isRight(m) {
		return msg.Msg{}, false
	}
	return m, true
}

// holdsRead holds Read against the chapter's words.
func holdsRead(t *testing.T, s string) {
	t.Helper()
	want, ok := readOf(s)
	e := api.OK
	if !ok {
		e = api.ErrForm
	}
	got, err := msg.Read(s)
	if got != want || err != e {
		t.Fatalf("%.200q %+v %v not %+v %v", s, got, err, want, e)
	}
	if own, se := got.Show(); ok && (own != s || se != api.OK) {
		t.Fatalf("%.200q %q %v", s, own, se)
	}
}

// P11.3
func TestReadWrong(t *testing.T) {
	const none, pre, accepted = " 1.2 0.0 none", " 1.2 1.2 pre 1.2 other 3|0,2,0,0,0,0,0 noop", " 1.2 1.2 accepted 1.2 other 3|0,2,0,0,0,0,0 noop"
	for _, s := range []string{
		"", " ", "prepare", "prepare 2>1", "prepare 2>1 1.2", "prepare 2>1 1.2 1.2", "prepare 2>1 1.2 1.2 ", "asks",
		"prepare 2>1 1.2 1.2 asks ", " prepare 2>1 1.2 1.2 asks", "prepare  2>1 1.2 1.2 asks", "prepare 2>1  1.2 1.2 asks", "prepare 2>1 1.2  1.2 asks", "prepare 2>1 1.2 1.2  asks",
		"prepare 2>1 1.2 1.2 asks\n", "prepare 2>1 1.2 1.2 asks\x00", "prepare\t2>1 1.2 1.2 asks", "prepare 2>1 1.2 1.2 asks asks", "prepare 2>1 1.2 1.2 asks" + none, "prepare 2>1 1.2 1.2 asks" + pre,
		"prepare 2>1 1.2 1.2 yes", "prepare 2>1 1.2 1.2 no", "prepare 2>1 1.2 1.2 Asks", "prepare 2>1 1.2 1.2 ask", "prepare 2>1 1.2 1.2 true", "prepare 2>1 1.2 1.2 no" + none, "prepare 2>1 1.2 1.2 yes" + none,
		"Prepare 2>1 1.2 1.2 asks", "PREPARE 2>1 1.2 1.2 asks", "6 2>1 1.2 1.2 asks", "prepar 2>1 1.2 1.2 asks", "prepared 2>1 1.2 1.2 asks", " 2>1 1.2 1.2 asks", "none 2>1 1.2 1.2 asks", "2>1 1.2 1.2 asks",
		"prepare 2-1 1.2 1.2 asks", "prepare 21 1.2 1.2 asks", "prepare 2 1 1.2 1.2 asks", "prepare 2> 1 1.2 1.2 asks", "prepare 2 >1 1.2 1.2 asks", "prepare 2> 1.2 1.2 asks", "prepare >1 1.2 1.2 asks", "prepare > 1.2 1.2 asks", "prepare 2 1.2 1.2 asks",
		"prepare 2>1> 1.2 1.2 asks", "prepare 2>>1 1.2 1.2 asks", "prepare 2>1>0 1.2 1.2 asks", "prepare 2<1 1.2 1.2 asks", "prepare 2->1 1.2 1.2 asks", "prepare 02>1 1.2 1.2 asks", "prepare 2>01 1.2 1.2 asks", "prepare +2>1 1.2 1.2 asks", "prepare 2>+1 1.2 1.2 asks",
		"prepare 2>2 1.2 1.2 asks", "prepare 0>0 1.2 1.2 asks", "prepare 7>1 1.2 1.2 asks", "prepare 2>7 1.2 1.2 asks", "prepare -1>1 1.2 1.2 asks", "prepare 2>-1 1.2 1.2 asks", "prepare 2>-0 1.2 1.2 asks", "prepare 1_0>1 1.2 1.2 asks", "prepare 0x2>1 1.2 1.2 asks",
		"prepare 18446744073709551618>1 1.2 1.2 asks", "prepare 2>18446744073709551617 1.2 1.2 asks", "prepare a>1 1.2 1.2 asks", "prepare 2>a 1.2 1.2 asks", "prepare a>b 1.2 1.2 asks", "prepare 2>1.0 1.2 1.2 asks", "prepare 2.1 1.2 1.2 asks",
		"prepare 2>1 7.2 1.2 asks", "prepare 2>1 1.1024 1.2 asks", "prepare 2>1 01.2 1.2 asks", "prepare 2>1 1 1.2 asks", "prepare 2>1  1.2 asks", "prepare 2>1 a 1.2 asks", "prepare 2>1 -1.2 1.2 asks", "prepare 2>1 1.2.3 1.2 asks",
		"prepare 2>1 1.2 1.7 asks", "prepare 2>1 1.2 0.1 asks", "prepare 2>1 1.2 16777216.0 asks", "prepare 2>1 1.2 10 asks", "prepare 2>1 1.2 a asks", "prepare 2>1 1.2  asks", "prepare 2>1 1.2 01.2 asks", "prepare 1.2 2>1 1.2 asks",
		"preparereply 1>2 1.2 1.2 yes", "preparereply 1>2 1.2 1.2 yes ", "preparereply 1>2 1.2 1.2 asks", "preparereply 1>2 1.2 1.2 asks" + none, "preparereply 1>2 1.2 1.2" + none, "preparereply 1>2 1.2 1.2 Yes" + none, "preparereply 1>2 1.2 1.2 true" + none, "preparereply 1>2 1.2 1.2 " + none, "preparereply 1>2 1.2 1.2 no yes" + none,
		"preparereply 1>2 1.2 1.2 yes 1.3 0.0 none", "preparereply 1>2 1.2 1.2 yes 2.2 0.0 none", "preparereply 1>2 1.2 1.2 yes 1.2 1.7 none", "preparereply 1>2 1.2 1.2 yes 1.2 0.0 nil", "preparereply 1>2 1.2 1.2 yes 1.2 none", "preparereply 1>2 1.2 1.2 yes  1.2 0.0 none", "preparereply 1>2 1.2 1.2 yes 1.2 0.0 none ", "preparereply 1>1 1.2 1.2 yes" + none,
		"preparereply 1>2 1.2 1.2 yes" + none + none, "prepare reply 1>2 1.2 1.2 yes" + none, "preparereply 1>2 1.2 1.2 yes" + pre + " x", "prepare_reply 1>2 1.2 1.2 yes" + none,
		"preaccept 1>2 1.2 1.2 asks", "preaccept 1>2 1.2 1.2 asks" + none, "preaccept 1>2 1.2 1.2 yes" + pre, "preaccept 1>2 1.2 1.2 no" + pre, "preaccept 1>2 1.2 1.2" + pre, "preaccept 1>2 1.2 1.2 asks" + accepted, "preaccept 1>2 1.2 2.1 asks" + pre, "preaccept 1>2 1.3 1.2 asks" + pre, "preaccept 1>2 1.2 1.2 asks 1.2 1.2 pre 0.0 other 3|0,2,0,0,0,0,0 noop",
		"preaccept 1>2 1.2 0.0 asks 1.2 0.0 pre 0.0 same 3|0,2,0,0,0,0,0 noop", "accept 1>2 1.2 1.2 asks" + pre, "commit 1>2 1.2 1.2 asks" + accepted, "commit 1>2 1.2 1.2 asks" + pre, "accept 1>2 1.2 1.2 yes" + accepted, "acceptreply 1>2 1.2 1.2 asks" + accepted, "prereply 1>2 1.2 1.2 asks" + pre, "preacceptreply 1>2 1.2 1.2 yes" + pre, "commitreply 1>2 1.2 1.2 yes" + none,
		strings.Repeat(" ", 100000), strings.Repeat("prepare ", 30000), "prepare 2>1 1.2 1.2 asks" + strings.Repeat(" ", 100000), "prepare " + strings.Repeat("2>", 50000) + "1 1.2 1.2 asks", "prepare " + strings.Repeat("0", 100000) + "2>1 1.2 1.2 asks", "preparereply 1>2 1.2 1.2 yes" + strings.Repeat(none, 10000), strings.Repeat("prepare", 20000) + " 2>1 1.2 1.2 asks",
	} {
		if m, e := msg.Read(s); m != (msg.Msg{}) || e != api.ErrForm {
			t.Errorf("%.100q %+v %v", s, m, e)
		}
		if _, ok := readOf(s); ok {
			t.Errorf("%.100q is one", s)
		}
	}
	// Where none is wrong.
	for _, s := range []string{"prepare 2>1 1.2 1.2 asks", "preparereply 1>2 1.2 1.2 yes" + none, "preaccept 1>2 1.2 1.2 asks" + pre, "accept 1>2 1.2 1.2 asks" + accepted, "acceptreply 1>2 1.2 1.2 no" + pre} {
		if m, e := msg.Read(s); !m.Right() || e != api.OK {
			t.Errorf("%q %+v %v", s, m, e)
		}
	}
}

// P11.3: messages' texts with a byte made another one, left out, or put between, and cut.
func TestReadSpoilt(t *testing.T) {
	for n, m := range some() {
		if n == 6 || n == 16 {
			// As long ones are gone through at random below.
			continue
		}
		s, _ := m.Show()
		for at := range len(s) {
			for v := range 256 {
				holdsRead(t, s[:at]+string([]byte{byte(v)})+s[at+1:])
				holdsRead(t, s[:at]+string([]byte{byte(v)})+s[at:])
			}
			holdsRead(t, s[:at]+s[at+1:])
			holdsRead(t, s[:at])
			holdsRead(t, s[at:])
			holdsRead(t, s[:at]+s)
		}
	}
	random := rand.New(rand.NewSource(11))
	for range 20000 {
		s, _ := some()[random.Intn(len(some()))].Show()
		b := []byte(s)
		b[random.Intn(len(b))] = byte(random.Intn(128))
		holdsRead(t, string(b))
	}
}

// P11.3: texts made at random of the words of which they consist.
func TestReadAgainstTheChapter(t *testing.T) {
	random := rand.New(rand.NewSource(113))
	places := [][]string{
		append(names[1:], "", "Prepare"),
		{"0>1", "2>1", "6>5", "6>0", "3>3", "7>1", "01>2", "1>"},
		{"1.2", "1.2", "1.2", "6.1023", "0.0", "7.2", "1.3", ""},
		{"0.0", "1.2", "1.2", "2.1", "2.1", "1.7", "0.1"},
		{"asks", "yes", "no", "asks", "Asks", ""},
		{"1.2 0.0 none", "1.2 1.2 pre 1.2 other 3|0,2,0,0,0,0,0 noop", "1.2 1.2 accepted 1.2 other 3|0,2,0,0,0,0,0 noop", "1.2 1.2 committed 1.2 other 3|0,2,0,0,0,0,0 noop", "1.2 0.0 pre 0.0 same 3|0,2,0,0,0,0,0 noop", "1.3 0.0 none", "7.2 0.0 none", ""},
	}
	read := map[int]int{}
	for range 100000 {
		l := make([]string, 0, 8)
		for n, p := range places {
			if n == 0 || n == 5 {
				l = append(l, p[random.Intn(len(p))])
			} else {
				l = append(l, p[random.Intn(len(p))>>random.Intn(2)])
			}
		}
		l = l[:5+random.Intn(2)]
		switch random.Intn(20) {
		case 0:
			l = l[:random.Intn(len(l))]
		case 1:
			l = append(l, "asks")
		case 2:
			n, m := random.Intn(len(l)), random.Intn(len(l))
			l[n], l[m] = l[m], l[n]
		}
		s := strings.Join(l, " ")
		holdsRead(t, s)
		if m, ok := readOf(s); ok {
			read[m.Kind]++
		}
	}
	for k := 1; k <= 7; k++ {
		if read[k] < 30 {
			t.Error(k, read[k])
		}
	}
}

// P11.1: what is handed in is neither changed nor kept, what is told is new.
func TestMemory(t *testing.T) {
	for _, m := range some() {
		want := seal(partsOf(m))
		b := append(bytes.Clone(want), 1, 2, 3)
		got, e := msg.Open(b[:len(want)])
		if !bytes.Equal(b, append(bytes.Clone(want), 1, 2, 3)) {
			t.Errorf("%x", b)
		}
		for n := range b {
			b[n] = 'z'
		}
		if got != m || e != api.OK {
			t.Error(m, got, e)
		}
		told := m.Frame()
		told = told[:cap(told)]
		for n := range told {
			told[n] = 0xee
		}
		if again := m.Frame(); !bytes.Equal(again, want) {
			t.Errorf("%x", again)
		}
	}
}

// isWithin tells whether a text lies in another one's memory.
func isWithin(s, of string) bool {
	a, b := uintptr(unsafe.Pointer(unsafe.StringData(s))), uintptr(unsafe.Pointer(unsafe.StringData(of)))
	return s != "" && a >= b && a < b+uintptr(len(of))
}

// P11.2 and P11.3: texts that are told aren't those that were handed in.
func TestMemoryOfTexts(t *testing.T) {
	for _, m := range some() {
		s, _ := m.Show()
		got, _ := msg.Read(s)
		was := m.Known.Cmd
		if isWithin(got.Known.Cmd.Session.Foot, s) || isWithin(got.Known.Cmd.Path, s) || isWithin(s, was.Path) || isWithin(s, was.Session.Foot) {
			t.Error(m)
		}
		asked, told := msg.Ask(msg.Commit, 0, 1, 8, m.Known).Known.Cmd, m.Reply(true, m.Known).Known.Cmd
		for _, c := range []cmd.Cmd{asked, told} {
			if c != was || isWithin(c.Session.Foot, was.Session.Foot) || isWithin(c.Path, was.Path) {
				t.Error(m)
			}
		}
	}
}

// Messages are values: what is asked of them doesn't change them.
func TestValuesStay(t *testing.T) {
	near(func(m msg.Msg) {
		was, x := m, own()
		m.Right()
		m.Frame()
		m.Show()
		r := m.Reply(true, x)
		r.Known.Bal = 8
		a := msg.Ask(m.Kind, m.From, m.To, m.Bal, m.Known)
		a.Known.Attr.Deps[0] = 9
		if m != was || x != own() {
			t.Fatal(m, was)
		}
	})
}

// P1: no call panics, whatever it is given.
func TestNoPanic(t *testing.T) {
	var before msg.Msg
	check := func(m msg.Msg) {
		m.Right()
		holdsOpen(t, m.Frame())
		m.Show()
		m.Reply(m.OK, before.Known).Show()
		msg.Ask(m.Kind, m.From, m.To, m.Bal, before.Known).Frame()
		msg.Ask(before.Kind, m.To, m.From, m.Bal, m.Known).Show()
		before = m
	}
	near(check)
	many(check)
	random := rand.New(rand.NewSource(1))
	number := func() int { return int(random.Uint64()) >> random.Intn(64) }
	for range 20000 {
		m := some()[random.Intn(len(some()))]
		m.Kind, m.From, m.To = number(), number(), number()
		m.ID = mark.ID{Replica: number(), Slot: number()}
		m.Bal = mark.Ballot(random.Uint32() >> random.Intn(32))
		m.Known.Status = number()
		check(m)
	}
	for range 20000 {
		b := make([]byte, random.Intn(600))
		for n := range b {
			b[n] = byte(random.Intn(256) >> (random.Intn(2) * 5))
		}
		holdsOpen(t, b)
		holdsOpen(t, sum.Seal(b))
		holdsRead(t, string(b))
	}
}

// P1 and P11.1: no bytes make it panic, as they are and sealed.
func FuzzOpen(f *testing.F) {
	for _, m := range some() {
		f.Add(m.Frame())
		f.Add([]byte(partsOf(m)))
	}
	f.Fuzz(func(t *testing.T, b []byte) {
		holdsOpen(t, b)
		holdsOpen(t, sum.Seal(b))
	})
}

// P1 and P11.3: no text makes it panic.
func FuzzRead(f *testing.F) {
	for _, m := range some() {
		s, _ := m.Show()
		f.Add(s)
	}
	f.Fuzz(func(t *testing.T, s string) { holdsRead(t, s) })
}
