package clash_test

import (
	"fmt"
	"math"
	"math/rand"
	"slices"
	"strings"
	"testing"
	"unsafe"

	"moothill/api"
	"moothill/clash"
	"moothill/cmd"
)

// deepest is a path of eight parts, longest one of 64 bytes.
var (
	deepest = "1/2/3/4/5/6/7/8"
	longest = strings.Repeat("x", 64)
)

// paths has paths: such as lie above one another, beside one another, and such as only begin alike.
func paths() []string {
	return []string{"a", "b", "ab", "a-", "a_b", "a0", "a/b", "a/c", "a/bc", "ab/c", "b/a", "a/a", "a/b/c", "a/b/d", "a/c/b", "-", "_", deepest, deepest[:13], deepest[:1], "1/2/3", "2/3", longest, longest[1:]}
}

// wrongs has texts that are no paths.
func wrongs() []string {
	return []string{"", "/", "a/", "/a", "a//b", "A", "a b", "a.b", "*", "**", "a/*", ".", "..", "a/..", "é", "\xff", "\x00", longest + "x", deepest + "/9"}
}

// isPath tells whether a text is a path.
func isPath(s string) bool {
	parts := strings.Split(s, "/")
	if len(s) > api.MaxPath || len(parts) > api.MaxParts {
		return false
	}
	for _, x := range parts {
		if x == "" || strings.Trim(x, "abcdefghijklmnopqrstuvwxyz0123456789-_") != "" {
			return false
		}
	}
	return true
}

// overlap tells, part by part, whether one of two paths lies above the other.
func overlap(p, q string) bool {
	if !isPath(p) || !isPath(q) {
		return false
	}
	a, b := strings.Split(p, "/"), strings.Split(q, "/")
	n := min(len(a), len(b))
	return slices.Equal(a[:n], b[:n])
}

// keysClash tells, by the chapter's words, whether two keys interfere.
func keysClash(k, o clash.Key) bool {
	return k.Num == o.Num || overlap(k.Foot, o.Foot)
}

// keyOf is, kind by kind, a command's key.
func keyOf(c cmd.Cmd) (clash.Key, bool) {
	if !c.Right() {
		return clash.Key{}, false
	}
	switch c.Kind {
	case cmd.Open, cmd.Close, cmd.Keep, cmd.Expire:
		return clash.Key{Foot: c.Session.Foot, Num: c.Session.Num}, true
	case cmd.Acquire, cmd.Try, cmd.Release, cmd.Check:
		return clash.Key{Foot: c.Path, Num: c.Session.Num}, true
	}
	return clash.Key{}, false
}

// cmdsClash tells, by the chapter's words, whether two commands interfere.
func cmdsClash(a, b cmd.Cmd) bool {
	k, hasA := keyOf(a)
	o, hasB := keyOf(b)
	return hasA && hasB && keysClash(k, o)
}

// among are, by the chapter's words, the places of those that interfere with a command.
func among(l []cmd.Cmd, c cmd.Cmd) []int {
	var at []int
	for n := range l {
		if cmdsClash(l[n], c) {
			at = append(at, n)
		}
	}
	return at
}

// isClosed tells, pair by pair, whether some commands are closed.
func isClosed(l []cmd.Cmd, in []bool) bool {
	is := make([]bool, len(l))
	copy(is, in)
	for n := range l {
		for m := range n {
			if is[n] && !is[m] && cmdsClash(l[m], l[n]) {
				return false
			}
		}
	}
	return true
}

// some gives a right command of each kind, of a session with a footprint, on a path.
func some(num uint64, foot, path string) []cmd.Cmd {
	s := cmd.Session{Num: num, Foot: foot}
	return []cmd.Cmd{
		{},
		{Kind: cmd.Open, Session: s, Request: 1, N: 1, Time: 1},
		{Kind: cmd.Close, Session: s, Request: 1},
		{Kind: cmd.Keep, Session: s, Request: 1, Time: 1},
		{Kind: cmd.Acquire, Session: s, Request: 1, Path: path, Mode: cmd.Shared},
		{Kind: cmd.Try, Session: s, Request: 1, Path: path, Mode: cmd.Exclusive},
		{Kind: cmd.Release, Session: s, Request: 1, Path: path},
		{Kind: cmd.Check, Session: s, Request: 1, Path: path, N: 1},
		{Kind: cmd.Expire, Session: s, Time: 1},
	}
}

// closing is the Close of a session, acquiring its Acquire of a path: in short, commands whose footprints are these.
func closing(num uint64, foot string) cmd.Cmd {
	return cmd.Cmd{Kind: cmd.Close, Session: cmd.Session{Num: num, Foot: foot}, Request: 1}
}

func acquiring(num uint64, path string) cmd.Cmd {
	return cmd.Cmd{Kind: cmd.Acquire, Session: cmd.Session{Num: num, Foot: "z"}, Request: 1, Path: path, Mode: cmd.Exclusive}
}

// spoilt gives commands that aren't right: of each kind, each with one part made a wrong one.
func spoilt() []cmd.Cmd {
	l := []cmd.Cmd{{Kind: -1}, {Kind: 9}, {Kind: 256}, {Kind: math.MinInt}, {Kind: math.MaxInt}, {Request: 1}, {Path: "a"}, {Session: cmd.Session{Num: 7, Foot: "a"}}}
	for _, c := range some(7, "a", "a/b") {
		for _, f := range []func(*cmd.Cmd){
			func(c *cmd.Cmd) { c.Kind += 9 },
			func(c *cmd.Cmd) { c.Kind = -1 },
			func(c *cmd.Cmd) { c.Session.Foot = "" },
			func(c *cmd.Cmd) { c.Session.Foot = "/a" },
			func(c *cmd.Cmd) { c.Request = 0 },
			func(c *cmd.Cmd) { c.Path = "" },
			func(c *cmd.Cmd) { c.Path = "a/" },
			func(c *cmd.Cmd) { c.Path = longest + "x" },
			func(c *cmd.Cmd) { c.Mode = 0 },
			func(c *cmd.Cmd) { c.Mode = 3 },
			func(c *cmd.Cmd) { c.N = 0 },
			func(c *cmd.Cmd) { c.N = math.MaxUint64 },
			func(c *cmd.Cmd) { c.Time = -1 },
			func(c *cmd.Cmd) { c.Time = api.MaxTime + 1 },
		} {
			d := c
			if f(&d); !d.Right() {
				l = append(l, d)
			}
		}
	}
	return l
}

// all gives commands of all kinds, of sessions and paths that meet, and don't, right and wrong.
func all() []cmd.Cmd {
	l := spoilt()
	for _, num := range []uint64{0, 1, math.MaxUint64} {
		for _, foot := range []string{"a", "a/b", "ab", "c"} {
			for _, path := range []string{"a", "a/b/c", "a/c", "b"} {
				l = append(l, some(num, foot, path)...)
			}
		}
	}
	return l
}

// P8.1: the chapter's example.
func TestExample(t *testing.T) {
	a, b := closing(1, "a"), acquiring(2, "a/b")
	if !clash.Clash(a, b) || !clash.Clash(b, a) {
		t.Error(a, b)
	}
}

// P8.1: the footprint is the Path, where there is one, else the session's; the number is the session's.
func TestOf(t *testing.T) {
	session, path := clash.Key{Foot: "f/g", Num: 7}, clash.Key{Foot: "p", Num: 7}
	for n, want := range []clash.Key{{}, session, session, session, path, path, path, path, session} {
		if k, ok := clash.Of(some(7, "f/g", "p")[n]); k != want || ok != (n > 0) {
			t.Error(n, k, ok)
		}
	}
	for _, num := range []uint64{0, 1, 1 << 32, math.MaxUint64} {
		for _, p := range paths() {
			for n, c := range append(some(num, p, "q"), some(num, "q", p)...) {
				want, has := keyOf(c)
				if k, ok := clash.Of(c); k != want || ok != has {
					t.Error(n, c, k, ok)
				}
			}
		}
	}
}

// P8.1: what isn't right has no key.
func TestOfWrong(t *testing.T) {
	l := spoilt()
	for _, p := range wrongs() {
		l = append(l, some(7, p, "a")[1:]...)
		l = append(l, some(7, "a", p)[4:8]...)
	}
	for _, c := range l {
		if k, ok := clash.Of(c); ok || k != (clash.Key{}) {
			t.Errorf("%+v %+v %v", c, k, ok)
		}
	}
}

// P8.1
func TestKeys(t *testing.T) {
	for _, x := range []struct {
		p, q string
		want bool
	}{
		{"a", "a", true},
		{"a", "a/b", true},
		{"a", "a/b/c", true},
		{"a/b", "a/b/c", true},
		{"a/b", "a/b", true},
		{deepest, deepest, true},
		{deepest, "1", true},
		{deepest, deepest[:13], true},
		{longest, longest, true},
		{"a", "b", false},
		{"a", "ab", false},
		{"a", "ab/c", false},
		{"a/b", "a/c", false},
		{"a/b", "a/bc", false},
		{"a/b", "b", false},
		{"a/b", "b/a", false},
		{"a/b/c", "a/d/c", false},
		{"a", "a-/b", false},
		{longest, longest[1:], false},
		// What is no path overlaps nothing, itself neither.
		{"", "", false},
		{"", "a", false},
		{"/", "/", false},
		{"/", "/a", false},
		{"/a", "/a", false},
		{"a/", "a", false},
		{"a/", "a/", false},
		{"a", "a/", false},
		{"a", "a//b", false},
		{"a", "a/B", false},
		{"A", "A", false},
		{"a/..", "a", false},
		{"*", "a", false},
		{"**", "a", false},
		{deepest, deepest + "/9", false},
		{longest + "x", longest + "x", false},
	} {
		for _, y := range []struct {
			a, b uint64
			want bool
		}{
			{1, 2, x.want}, {0, math.MaxUint64, x.want}, {1, 1<<32 + 1, x.want}, {1 << 63, 0, x.want},
			{0, 0, true}, {1, 1, true}, {math.MaxUint64, math.MaxUint64, true},
		} {
			k, o := clash.Key{Foot: x.p, Num: y.a}, clash.Key{Foot: x.q, Num: y.b}
			if k.Clash(o) != y.want || o.Clash(k) != y.want {
				t.Errorf("%+v %+v %v %v", k, o, k.Clash(o), o.Clash(k))
			}
		}
	}
}

// P8.1: each two texts, paths or not, of one number and of two.
func TestKeysByWords(t *testing.T) {
	texts := append(paths(), wrongs()...)
	for _, p := range texts {
		for _, q := range texts {
			for _, num := range []uint64{0, 1, math.MaxUint64} {
				k, o := clash.Key{Foot: p, Num: 1}, clash.Key{Foot: q, Num: num}
				if k.Clash(o) != keysClash(k, o) {
					t.Errorf("%+v %+v %v", k, o, k.Clash(o))
				}
			}
		}
	}
}

// P8.1
func TestClash(t *testing.T) {
	open := some(1, "a", "")[1]
	for n, x := range []struct {
		a, b cmd.Cmd
		want bool
	}{
		{closing(1, "a"), closing(1, "a"), true},
		{closing(1, "a"), closing(1, "b"), true},
		{closing(1, "a"), closing(2, "a"), true},
		{closing(1, "a"), closing(2, "a/b"), true},
		{closing(1, "a"), closing(2, "b"), false},
		{closing(1, "a"), closing(2, "ab"), false},
		{acquiring(1, "a/b"), acquiring(2, "a"), true},
		{acquiring(1, "a/b"), acquiring(2, "a/c"), false},
		{acquiring(1, "a/b"), acquiring(1, "c"), true},
		{open, acquiring(1, "c"), true},
		{open, acquiring(2, "a/b"), true},
		{open, acquiring(2, "c"), false},
		// With a Path the session's own footprint says nothing.
		{acquiring(1, "a"), acquiring(2, "b"), false},
		{acquiring(1, "a"), closing(2, "z"), false},
		{cmd.Cmd{}, cmd.Cmd{}, false},
		{cmd.Cmd{}, closing(0, "a"), false},
		{cmd.Cmd{Kind: 9, Session: open.Session}, open, false},
		{closing(1, "/a"), closing(1, "a"), false},
		{closing(1, ""), closing(1, ""), false},
		{acquiring(1, ""), acquiring(1, "a"), false},
	} {
		if clash.Clash(x.a, x.b) != x.want || clash.Clash(x.b, x.a) != x.want {
			t.Error(n, x.a, x.b)
		}
	}
}

// P8.1: each two commands, right and wrong.
func TestClashByWords(t *testing.T) {
	l := all()
	for _, a := range l {
		for _, b := range l {
			if got := clash.Clash(a, b); got != cmdsClash(a, b) {
				t.Fatalf("%+v %+v %v", a, b, got)
			}
		}
	}
}

// P8.2
func TestAmong(t *testing.T) {
	l := []cmd.Cmd{closing(1, "a"), {}, acquiring(2, "a/b"), acquiring(3, "b"), closing(1, "/a"), acquiring(4, "a/c"), acquiring(1, "c"), acquiring(2, "a/b")}
	for n, x := range []struct {
		c    cmd.Cmd
		want []int
	}{
		{l[0], []int{0, 2, 5, 6, 7}},
		{l[1], nil},
		{l[2], []int{0, 2, 7}},
		{l[3], []int{3}},
		{l[4], nil},
		{l[5], []int{0, 5}},
		{l[6], []int{0, 6}},
		{closing(9, "d"), nil},
		{closing(9, "a"), []int{0, 2, 5, 7}},
		{closing(3, "d"), []int{3}},
		{cmd.Cmd{Kind: 9, Session: l[0].Session}, nil},
	} {
		if got := clash.Among(l, x.c); !slices.Equal(got, x.want) {
			t.Error(n, got)
		}
	}
	for _, c := range l {
		if got := clash.Among(nil, c); len(got) != 0 {
			t.Error(c, got)
		}
		if got := clash.Among([]cmd.Cmd{}, c); len(got) != 0 {
			t.Error(c, got)
		}
	}
}

// P8.2: among all commands, each one.
func TestAmongByWords(t *testing.T) {
	l := all()
	for _, c := range l {
		if got := clash.Among(l, c); !slices.Equal(got, among(l, c)) {
			t.Fatalf("%+v %v", c, got)
		}
	}
}

// bools gives the truths of the bits of v, the lowest first.
func bools(v, n int) []bool {
	in := make([]bool, n)
	for i := range in {
		in[i] = v>>i&1 == 1
	}
	return in
}

// P8.2
func TestClosed(t *testing.T) {
	const no, is = false, true
	l := []cmd.Cmd{closing(1, "a"), acquiring(2, "b"), {}, acquiring(3, "a/b"), acquiring(2, "c"), closing(1, "/a"), acquiring(3, "b/c")}
	for n, x := range []struct {
		in   []bool
		want bool
	}{
		{nil, true},
		{[]bool{}, true},
		{[]bool{no, no, no, no, no, no, no}, true},
		{[]bool{is, is, is, is, is, is, is}, true},
		// The first ones: whatever stands behind.
		{[]bool{is}, true},
		{[]bool{is, is}, true},
		{[]bool{no, is}, true},
		{[]bool{is, is, is, is}, true},
		// What touches nothing is needed by none, and needs none.
		{[]bool{no, no, is}, true},
		{[]bool{no, no, no, no, no, is}, true},
		{[]bool{is, is, no, is, is, no, is}, true},
		// A footprint above, one below, and the same number.
		{[]bool{no, is, is, is}, false},
		{[]bool{is, no, no, is}, true},
		{[]bool{is, no, no, no, is}, false},
		{[]bool{no, is, no, no, is}, true},
		{[]bool{is, is, is, no, is, is, is}, false},
		{[]bool{is, no, is, is, is, is, is}, false},
		{[]bool{is, is, is, is, no, is, is}, true},
		{[]bool{no, is, no, is, no, no, is}, false},
		// Behind the list's end a true says nothing.
		{[]bool{no, no, no, no, no, no, no, is}, true},
		{[]bool{is, is, is, is, is, is, is, no, is}, true},
		{[]bool{no, no, no, is, no, no, no, is, is}, false},
	} {
		if got := clash.Closed(l, x.in); got != x.want {
			t.Error(n, got)
		}
	}
	for _, in := range [][]bool{nil, {}, {is}, {no, is, is}} {
		if !clash.Closed(nil, in) || !clash.Closed([]cmd.Cmd{}, in) {
			t.Error(in)
		}
	}
}

// P8.2: each two commands, one of which is in: the first one is needed, the second one isn't.
func TestClosedByTwos(t *testing.T) {
	l := all()
	for _, a := range l {
		for _, b := range l {
			if got := clash.Closed([]cmd.Cmd{a, b}, []bool{false, true}); got == cmdsClash(a, b) {
				t.Fatalf("%+v %+v %v", a, b, got)
			}
			if !clash.Closed([]cmd.Cmd{a, b}, []bool{true}) {
				t.Fatalf("%+v %+v", a, b)
			}
		}
	}
	for _, p := range paths() {
		for _, q := range paths() {
			if got := clash.Closed([]cmd.Cmd{acquiring(1, p), acquiring(2, q)}, []bool{false, true}); got == overlap(p, q) {
				t.Errorf("%q %q %v", p, q, got)
			}
		}
	}
}

// P8.2: each choice, with in as long as the list, shorter and longer.
func TestClosedByWords(t *testing.T) {
	random := rand.New(rand.NewSource(8))
	from := all()
	for range 1000 {
		l := make([]cmd.Cmd, random.Intn(7))
		for n := range l {
			l[n] = from[random.Intn(len(from))]
			if random.Intn(2) == 0 {
				l[n] = acquiring(uint64(random.Intn(9)), paths()[random.Intn(len(paths()))])
			}
		}
		for v := range 1 << len(l) {
			for _, long := range []int{len(l), len(l) / 2, len(l) + 2} {
				in := bools(v|3<<len(l), long)
				if got := clash.Closed(l, in); got != isClosed(l, in) {
					t.Fatalf("%+v %v %v", l, in, got)
				}
			}
		}
	}
}

// P8.2: long lists, closed but for one command: those that are needed by what is in, to any depth, and one of them taken away again.
func TestClosedLong(t *testing.T) {
	random := rand.New(rand.NewSource(9))
	for range 50 {
		l := make([]cmd.Cmd, 80)
		for n := range l {
			l[n] = acquiring(uint64(random.Intn(160)), fmt.Sprintf("%d/%d/%d", random.Intn(9), random.Intn(5), random.Intn(3))[:1+2*random.Intn(3)])
		}
		in := make([]bool, len(l))
		in[len(l)-1-random.Intn(9)] = true
		for n := range slices.Backward(l) {
			for m := range n {
				in[m] = in[m] || in[n] && cmdsClash(l[m], l[n])
			}
		}
		if !clash.Closed(l, in) {
			t.Fatal(l, in)
		}
		for n := range in {
			spoilt := slices.Clone(in)
			spoilt[n] = !spoilt[n]
			if got := clash.Closed(l, spoilt); got != isClosed(l, spoilt) {
				t.Fatal(n, got)
			}
		}
	}
}

// P1 and P8.2: many commands, none of which interfere, are gone through in short time.
func TestManyCommands(t *testing.T) {
	l := make([]cmd.Cmd, 200000)
	in := make([]bool, len(l))
	for n := range l {
		l[n] = acquiring(uint64(n), fmt.Sprintf("a/%d/b", n))
		in[n] = n%2 == 1
	}
	if !clash.Closed(l, in) {
		t.Error("not closed")
	}
	if at := clash.Among(l, closing(1<<40, "a")); len(at) != len(l) {
		t.Error(len(at))
	}
	l[0] = closing(1<<40, "a")
	if clash.Closed(l, in) {
		t.Error("closed")
	}
}

// P8.1: a key's footprint isn't the command's memory.
func TestMemoryOfKeys(t *testing.T) {
	at := func(s string) uintptr { return uintptr(unsafe.Pointer(unsafe.StringData(s))) }
	for _, c := range some(7, strings.Repeat("a", 9), strings.Repeat("b", 9))[1:] {
		k, _ := clash.Of(c)
		if at(k.Foot) == at(c.Session.Foot) || at(k.Foot) == at(c.Path) {
			t.Error(c)
		}
	}
}

// P8.2: what is handed in isn't changed, its spare room neither; what is told is new.
func TestMemoryOfLists(t *testing.T) {
	l := all()
	in := bools(0x5a5a, len(l)+3)
	givenL, givenIn := l[:len(l)-3:len(l)], in[:len(in)-3]
	wasL, wasIn := slices.Clone(l), slices.Clone(in)
	c := closing(1, "a")
	first := clash.Among(givenL, c)
	want := slices.Clone(first)
	clash.Closed(givenL, givenIn)
	first = first[:cap(first)]
	for n := range first {
		first[n] = -1
	}
	if got := clash.Among(givenL, c); !slices.Equal(got, want) {
		t.Error(got)
	}
	if !slices.Equal(l, wasL) || !slices.Equal(in, wasIn) {
		t.Error("changed")
	}
}

// P1, P8.1 and P8.2: no texts and numbers make it panic, and all is as the chapter's words say.
func FuzzClash(f *testing.F) {
	texts := append(paths(), wrongs()...)
	for n, p := range texts {
		q := texts[(7*n+3)%len(texts)]
		f.Add(uint8(n), uint64(n%3), p, q, uint8(n/3), uint64(n%2), "a", p)
	}
	f.Fuzz(func(t *testing.T, kindA uint8, numA uint64, footA, pathA string, kindB uint8, numB uint64, footB, pathB string) {
		a, b := some(numA, footA, pathA)[kindA%9], some(numB, footB, pathB)[kindB%9]
		k, o := clash.Key{Foot: pathA, Num: numA}, clash.Key{Foot: pathB, Num: numB}
		if k.Clash(o) != keysClash(k, o) {
			t.Errorf("%+v %+v", k, o)
		}
		if clash.Clash(a, b) != cmdsClash(a, b) {
			t.Errorf("%+v %+v", a, b)
		}
		l := []cmd.Cmd{a, b}
		if got := clash.Among(l, a); !slices.Equal(got, among(l, a)) {
			t.Errorf("%+v %+v %v", a, b, got)
		}
		if clash.Closed(l, []bool{false, true}) == cmdsClash(a, b) {
			t.Errorf("%+v %+v", a, b)
		}
	})
}
