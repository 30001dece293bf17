package path_test

import (
	"cmp"
	"math/rand"
	"regexp"
	"slices"
	"strings"
	"testing"
	"unsafe"

	"moothill/api"
	"moothill/path"
)

// The most that a path may be.
var (
	deepest = "1/2/3/4/5/6/7/8"
	longest = strings.Repeat("x", api.MaxPath)
	// Eight parts of seven bytes, and one byte more, with the slashes: as deep and as long as may be.
	fullest = strings.Repeat("abcdefg/", 7) + "abcdefgh"
)

// right has paths: each length and depth at an edge, each kind of byte.
func right() []string {
	return []string{"a", "b", "z", "0", "9", "-", "_", "a-", "a-b", "a_b", "a0", "aa", "ab", "abc", "a/b", "a/c", "a/b/c", "a/b/c/d", "a/bc", "a-/b", "a/-b", "b/a", "b/b", "a/a/a", "a/a", deepest, deepest[2:], deepest[:13], longest, longest[1:], fullest, fullest[8:], "abcdefg"}
}

// wrong has texts that are no paths, each for a reason of its own.
func wrong() []string {
	return []string{"", "/", "//", "/a", "a/", "a//b", ".", "..", "a/.", "./a", "a/..", "../a", "a/./b", "a/../b", "...", "a.b", ".a", "A", "a/B", "a b", " a", "a ", "a\n", "a\x00", "a\\b", "*", "**", "a/*", "é", "š", "a/š/b", "ａ", "\xff", "a\x80", "a\xc3", "\xc3/a", "\uFFFD", "a:b", "a@", "a`b", "a{", "a,b", "a+b", deepest + "/9", longest + "x", fullest + "i", deepest + "/", "/" + deepest, longest + "/"}
}

func texts() []string { return append(right(), wrong()...) }

// rowsOf gives all texts of some bytes, up to a length.
func rowsOf(some string, most int) []string {
	l := []string{""}
	for first := 0; most > 0; most-- {
		n := len(l)
		for _, s := range l[first:n] {
			for _, c := range []byte(some) {
				l = append(l, s+string(c))
			}
		}
		first = n
	}
	return l
}

var rightModel = regexp.MustCompile(`\A[a-z0-9_-]+(/[a-z0-9_-]+){0,7}\z`)

func isRight(s string) bool { return len(s) <= 64 && rightModel.MatchString(s) }

func partsModel(s string) []string {
	if !isRight(s) {
		return nil
	}
	return strings.Split(s, "/")
}

var partModel = regexp.MustCompile(`\A[a-z0-9_-]+\z`)

// normalModel goes by the chapter's words.
func normalModel(s string) (string, api.Errno) {
	var left []string
	for _, x := range strings.Split(s, "/") {
		if x == "" || x == "." {
			continue
		}
		if x == ".." {
			if len(left) == 0 {
				return "", api.ErrPath
			}
			left = left[:len(left)-1]
			continue
		}
		if !partModel.MatchString(x) {
			return "", api.ErrPath
		}
		left = append(left, x)
	}
	p := strings.Join(left, "/")
	switch {
	case len(left) == 0:
		return "", api.ErrNone
	case len(left) > 8:
		return "", api.ErrDeep
	case len(p) > 64:
		return "", api.ErrSize
	}
	return p, api.OK
}

// P4.1
func TestNormal(t *testing.T) {
	for _, x := range []struct {
		s, p string
		e    api.Errno
	}{
		{"/a//b/../c", "a/c", api.OK},
		{"a", "a", api.OK},
		{"a/b", "a/b", api.OK},
		{"/a", "a", api.OK},
		{"a/", "a", api.OK},
		{"///a///b///", "a/b", api.OK},
		{"./a/./b/.", "a/b", api.OK},
		{"a/../b", "b", api.OK},
		{"a/b/../../c", "c", api.OK},
		{"a/b/./..//../c", "c", api.OK},
		{"a/b/..", "a", api.OK},
		{"az09-_/-/_", "az09-_/-/_", api.OK},
		{deepest, deepest, api.OK},
		{longest, longest, api.OK},
		{fullest, fullest, api.OK},
		{"/" + fullest + "/", fullest, api.OK},
		// Only what is left counts, however deep and long it was on the way.
		{deepest + "/9/..", deepest, api.OK},
		{deepest + "/9/10/../../../8", deepest, api.OK},
		{deepest + "/9/../x/../../y", "1/2/3/4/5/6/7/y", api.OK},
		{deepest + "/9/10/11" + strings.Repeat("/..", 10) + "/z", "1/z", api.OK},
		{deepest + "/" + deepest + strings.Repeat("/..", 15), "1", api.OK},
		{longest + "x/../a", "a", api.OK},
		{longest + "/b/..", longest, api.OK},
		{strings.Repeat("/", 1000) + "a" + strings.Repeat("/.", 1000), "a", api.OK},
		{"", "", api.ErrNone},
		{"/", "", api.ErrNone},
		{"//./", "", api.ErrNone},
		{".", "", api.ErrNone},
		{"a/..", "", api.ErrNone},
		{deepest + strings.Repeat("/..", 8), "", api.ErrNone},
		{deepest + "/9" + strings.Repeat("/..", 9), "", api.ErrNone},
		{deepest + "/9", "", api.ErrDeep},
		{deepest + "/9/10/..", "", api.ErrDeep},
		{strings.Repeat("a/", 1000), "", api.ErrDeep},
		{longest + "x", "", api.ErrSize},
		{fullest + "i", "", api.ErrSize},
		{longest + "/b", "", api.ErrSize},
		{"..", "", api.ErrPath},
		{"../a", "", api.ErrPath},
		{"/..", "", api.ErrPath},
		{"./..", "", api.ErrPath},
		{"a/../..", "", api.ErrPath},
		{"a/../../b", "", api.ErrPath},
		{deepest + strings.Repeat("/..", 9), "", api.ErrPath},
		{deepest + "/9" + strings.Repeat("/..", 10), "", api.ErrPath},
		{"A", "", api.ErrPath},
		{"a/b c", "", api.ErrPath},
		{"...", "", api.ErrPath},
		{"a/.../b", "", api.ErrPath},
		{".a", "", api.ErrPath},
		{"..a", "", api.ErrPath},
		{"a.", "", api.ErrPath},
		{"a/*", "", api.ErrPath},
		{"a/**", "", api.ErrPath},
		{"é", "", api.ErrPath},
		{"\xff", "", api.ErrPath},
		{"\x00", "", api.ErrPath},
		// What is taken away again must be a part, too.
		{"a/B/../c", "", api.ErrPath},
		// A part's error is named first, wherever it stands.
		{"/B", "", api.ErrPath},
		{"a/../B", "", api.ErrPath},
		{deepest + "/9/B", "", api.ErrPath},
		{longest + "x/B", "", api.ErrPath},
		{longest + "xB", "", api.ErrPath},
		// Then too many parts, ahead of too many bytes.
		{fullest + "/i", "", api.ErrDeep},
		{strings.Repeat(longest+"x/", 9), "", api.ErrDeep},
	} {
		if p, e := path.Normal(x.s); p != x.p || e != x.e {
			t.Errorf("%q: %q %d", x.s, p, e)
		}
	}
}

// P4.1: just these bytes are a part's, wherever they stand in it.
func TestBytesOfParts(t *testing.T) {
	const those = "abcdefghijklmnopqrstuvwxyz0123456789-_"
	for c := range 256 {
		b := string([]byte{byte(c)})
		in := strings.Contains(those, b)
		for _, s := range []string{b, "a" + b, b + "a", "x/a" + b + "a/y"} {
			if path.Right(s) != in && b != "/" {
				t.Errorf("Right(%q)", s)
			}
		}
		s := "x/a" + b + "a/y"
		p, e := path.Normal(s)
		switch {
		case b == "/":
			if p != "x/a/a/y" || e != api.OK {
				t.Errorf("Normal(%q): %q %d", s, p, e)
			}
		case in && (p != s || e != api.OK), !in && (p != "" || e != api.ErrPath):
			t.Errorf("Normal(%q): %q %d", s, p, e)
		}
	}
	// Of characters of more bytes, too, whatever their lowest bits are.
	for _, c := range those {
		for _, high := range []rune{0x100, 0x200, 0xff00, 0x10000, 0x100000} {
			if s := string(c + high); path.Right(s) || path.Pattern(s) {
				t.Errorf("%q", s)
			}
		}
	}
}

// P4.1
func TestRight(t *testing.T) {
	for _, p := range right() {
		if !path.Right(p) || !isRight(p) {
			t.Errorf("%q", p)
		}
		if n, e := path.Normal(p); n != p || e != api.OK {
			t.Errorf("Normal(%q): %q %d", p, n, e)
		}
	}
	for _, p := range wrong() {
		if path.Right(p) || isRight(p) {
			t.Errorf("%q", p)
		}
	}
}

// P4.1, P4.2, P4.4: all short texts, against the chapter's words.
func TestAllShortTexts(t *testing.T) {
	for _, s := range append(rowsOf("a-/.", 8), append(rowsOf("ab/.*", 6), texts()...)...) {
		p, e := path.Normal(s)
		if q, f := normalModel(s); p != q || e != f {
			t.Errorf("Normal(%q): %q %d", s, p, e)
		}
		if path.Right(s) != isRight(s) {
			t.Errorf("Right(%q)", s)
		}
		parts := partsModel(s)
		if l := path.Parts(s); !slices.Equal(l, parts) {
			t.Errorf("Parts(%q): %q", s, l)
		}
		if n := path.Depth(s); n != len(parts) {
			t.Errorf("Depth(%q): %d", s, n)
		}
		up, ok := path.Parent(s)
		if more := len(parts) > 1; ok != more || !more && up != "" || more && up != strings.Join(parts[:len(parts)-1], "/") {
			t.Errorf("Parent(%q): %q %v", s, up, ok)
		}
	}
}

// P4.2
func TestParts(t *testing.T) {
	for _, x := range []struct {
		p    string
		want []string
	}{
		{"a", []string{"a"}},
		{"a/b", []string{"a", "b"}},
		{"ab/-/c_0", []string{"ab", "-", "c_0"}},
		{deepest, []string{"1", "2", "3", "4", "5", "6", "7", "8"}},
		{longest, []string{longest}},
	} {
		if l := path.Parts(x.p); !slices.Equal(l, x.want) {
			t.Errorf("%q: %q", x.p, l)
		}
	}
	for _, p := range wrong() {
		if l := path.Parts(p); len(l) != 0 {
			t.Errorf("%q: %q", p, l)
		}
	}
}

// P4.2
func TestAbove(t *testing.T) {
	for _, x := range []struct {
		p, q string
		want bool
	}{
		{"a", "a", true},
		{"a", "a/b", true},
		{"a", "a/b/c", true},
		{"a/b", "a/b/c", true},
		{"1", deepest, true},
		{deepest[:13], deepest, true},
		{longest, longest, true},
		{"a/b", "a", false},
		{"a/b", "a/c", false},
		{"a", "b", false},
		{"a", "ab", false},
		{"a", "ab/c", false},
		{"a/b", "a/bc", false},
		{"a/b", "a/bc/d", false},
		{"a", "a-/b", false},
		{"b", "a/b", false},
		{"", "", false},
		{"", "a", false},
		{"a", "", false},
		{"a", "a/", false},
		{"a/", "a/b", false},
		{"a", "a//b", false},
		{"a", "a/B", false},
		{"A", "A/b", false},
		{"A", "A", false},
		{"a", "a/..", false},
		{"1", deepest + "/9", false},
		{deepest + "/9", deepest + "/9", false},
		{longest, longest + "/b", false},
		{longest + "x", longest + "x", false},
	} {
		if path.Above(x.p, x.q) != x.want {
			t.Errorf("Above(%q, %q)", x.p, x.q)
		}
		either := x.want || path.Above(x.q, x.p)
		if path.Overlap(x.p, x.q) != either || path.Overlap(x.q, x.p) != either {
			t.Errorf("Overlap(%q, %q)", x.p, x.q)
		}
	}
}

// P4.2: the chapter's example.
func TestOverlap(t *testing.T) {
	for _, x := range []struct {
		p, q string
		want bool
	}{{"a", "a/b", true}, {"a/b", "a/c", false}, {"a", "ab", false}, {"a/b/c", "a/b/c", true}, {"A", "A", false}, {"", "", false}, {"a/", "a", false}} {
		if path.Overlap(x.p, x.q) != x.want || path.Overlap(x.q, x.p) != x.want {
			t.Errorf("Overlap(%q, %q)", x.p, x.q)
		}
	}
}

// P4.2
func TestParent(t *testing.T) {
	for _, x := range []struct {
		p, up string
		ok    bool
	}{
		{"a/b", "a", true},
		{"a/b/c", "a/b", true},
		{"ab/c", "ab", true},
		{deepest, "1/2/3/4/5/6/7", true},
		{fullest, fullest[:55], true},
		{"a", "", false},
		{longest, "", false},
		{"", "", false},
		{"/", "", false},
		{"/a", "", false},
		{"a/", "", false},
		{"a//b", "", false},
		{"a/B", "", false},
		{"A/b", "", false},
		{"a/..", "", false},
		{deepest + "/9", "", false},
		{longest + "/b", "", false},
	} {
		if up, ok := path.Parent(x.p); up != x.up || ok != x.ok {
			t.Errorf("%q: %q %v", x.p, up, ok)
		}
	}
}

// P4.2
func TestCommon(t *testing.T) {
	for _, x := range []struct {
		p, q, both string
		ok         bool
	}{
		{"a", "a", "a", true},
		{"a/b", "a/c", "a", true},
		{"a/b", "a/b/c", "a/b", true},
		{"a/b/c", "a/b/d", "a/b", true},
		{"a/b/c", "a/x/c", "a", true},
		{"a/bc", "a/bd", "a", true},
		{"a/b", "a/bc", "a", true},
		{deepest, deepest, deepest, true},
		{longest, longest, longest, true},
		{"a", "b", "", false},
		{"a", "ab", "", false},
		{"x/a", "y/a", "", false},
		{"a", "", "", false},
		{"", "", "", false},
		{"a", "a/", "", false},
		{"a/b", "a/B", "", false},
		{"a/B", "a/B", "", false},
		{deepest, deepest + "/9", "", false},
		{longest + "x", longest + "x", "", false},
	} {
		for range 2 {
			if both, ok := path.Common(x.p, x.q); both != x.both || ok != x.ok {
				t.Errorf("Common(%q, %q): %q %v", x.p, x.q, both, ok)
			}
			x.p, x.q = x.q, x.p
		}
	}
}

// P4.3
func TestCompare(t *testing.T) {
	for _, x := range []struct {
		p, q string
		want int
	}{
		{"a", "a", 0},
		{"a", "b", -1},
		{"a", "ab", -1},
		{"a/b", "a/c", -1},
		{"a", "a/b", -1},
		{"a/b", "a/b/a", -1},
		{"0", "a", -1},
		{"_", "a", -1},
		{"9", "_", -1},
		{"-", "0", -1},
		{"10", "9", -1},
		{deepest, deepest, 0},
		// By parts the shorter part is first; byte by byte it were the other way round.
		{"a/b", "a-b", -1},
		{"a/z", "a-", -1},
		{"a/b/c", "a/b-/a", -1},
		{"x/a/9", "x/a-/0", -1},
		// Not both are paths: byte by byte.
		{"a-/", "a/b", -1},
		{"a-b", "a//b", -1},
		{"a-b", "a/B", -1},
		{"a-" + longest, "a/b", -1},
		{"", "a", -1},
		{"", "", 0},
		{"/", "/", 0},
		{"A", "A", 0},
		{"A", "a", -1},
		{"a", "é", -1},
		{"é", "\xff", -1},
		{"\xfe", "\xff", -1},
		{"a", "a/", -1},
		{deepest + "/9", deepest + "/9", 0},
	} {
		if c := path.Compare(x.p, x.q); c != x.want {
			t.Errorf("Compare(%q, %q): %d", x.p, x.q, c)
		}
		if c := path.Compare(x.q, x.p); c != -x.want {
			t.Errorf("Compare(%q, %q): %d", x.q, x.p, c)
		}
	}
}

// compareModel goes by the chapter's words.
func compareModel(p, q string) int {
	if !isRight(p) || !isRight(q) {
		return cmp.Compare(p, q)
	}
	a, b := partsModel(p), partsModel(q)
	for i := range min(len(a), len(b)) {
		if a[i] != b[i] {
			return cmp.Compare(a[i], b[i])
		}
	}
	return cmp.Compare(len(a), len(b))
}

// firstsModel is how many first parts two paths have in common.
func firstsModel(a, b []string) int {
	for i := range min(len(a), len(b)) {
		if a[i] != b[i] {
			return i
		}
	}
	return min(len(a), len(b))
}

// P4.2, P4.3: all pairs, against the chapter's words.
func TestAllPairs(t *testing.T) {
	l := append(rowsOf("a-/", 5), append(rowsOf("ab/.", 3), texts()...)...)
	for _, p := range l {
		for _, q := range l {
			a, b := partsModel(p), partsModel(q)
			n := firstsModel(a, b)
			above := n > 0 && n == len(a)
			if path.Above(p, q) != above {
				t.Errorf("Above(%q, %q)", p, q)
			}
			if path.Overlap(p, q) != (above || n > 0 && n == len(b)) {
				t.Errorf("Overlap(%q, %q)", p, q)
			}
			if both, ok := path.Common(p, q); ok != (n > 0) || both != strings.Join(a[:n], "/") {
				t.Errorf("Common(%q, %q): %q %v", p, q, both, ok)
			}
			if c := path.Compare(p, q); c != compareModel(p, q) {
				t.Errorf("Compare(%q, %q): %d", p, q, c)
			}
		}
	}
}

// P4.4
func TestDepth(t *testing.T) {
	for p, n := range map[string]int{"a": 1, "abc": 1, "a/b": 2, "a/b/c": 3, deepest: 8, longest: 1, fullest: 8} {
		if d := path.Depth(p); d != n {
			t.Errorf("%q: %d", p, d)
		}
	}
	for _, p := range wrong() {
		if d := path.Depth(p); d != 0 {
			t.Errorf("%q: %d", p, d)
		}
	}
}

var patternModel = regexp.MustCompile(`\A([a-z0-9_-]+|\*\*?)(/([a-z0-9_-]+|\*\*?)){0,7}\z`)

func isPattern(s string) bool { return len(s) <= 64 && patternModel.MatchString(s) }

// matchModel asks the library: each part of a path with a slash behind it.
func matchModel(s string) *regexp.Regexp {
	var b strings.Builder
	for _, x := range strings.Split(s, "/") {
		switch x {
		case "*":
			b.WriteString(`[^/]+/`)
		case "**":
			b.WriteString(`([^/]+/)*`)
		default:
			b.WriteString(regexp.QuoteMeta(x) + "/")
		}
	}
	return regexp.MustCompile(`\A` + b.String() + `\z`)
}

// P4.4
func TestPattern(t *testing.T) {
	for _, s := range append(right(), "*", "**", "*/*", "**/**", "a/*", "*/a", "a/**/b", "*/**/*", "**/*/a", "*/*/*/*/*/*/*/*", "**/**/**/**/**/**/**/**", longest[2:]+"/*", longest[3:]+"/**") {
		if !path.Pattern(s) || !isPattern(s) {
			t.Errorf("%q", s)
		}
	}
	for _, s := range []string{"", "/", "***", "****", "a*", "*a", "a**", "**a", "*-", "a*b", "* ", "*/", "/*", "*//*", "**/", "/**", "a//*", "a/***", "./*", "../*", "*/..", "*/.", "A/*", "*/A", "?", "a/?", "[a]", "é", "\xff", "*\xff", "*/*/*/*/*/*/*/*/*", "**/**/**/**/**/**/**/**/**", longest[1:] + "/*", longest[2:] + "/**", longest + "x", deepest + "/*", deepest + "/**"} {
		if path.Pattern(s) || isPattern(s) {
			t.Errorf("%q", s)
		}
	}
	for _, s := range wrong() {
		if path.Pattern(s) != isPattern(s) {
			t.Errorf("%q", s)
		}
	}
}

// P4.4
func TestMatch(t *testing.T) {
	for _, x := range []struct {
		s, p string
		want bool
	}{
		{"a", "a", true},
		{"a/b", "a/b", true},
		{"*", "a", true},
		{"*", longest, true},
		{"*/*", "a/b", true},
		{"a/*", "a/b", true},
		{"*/b", "a/b", true},
		{"a/*/c", "a/b/c", true},
		{"**", "a", true},
		{"**", "a/b/c", true},
		{"**", deepest, true},
		{"a/**", "a", true},
		{"a/**", "a/b", true},
		{"a/**", "a/b/c", true},
		{"**/a", "a", true},
		{"**/a", "b/a", true},
		{"**/a", "a/a", true},
		{"**/a", "a/b/a", true},
		{"a/**/b", "a/b", true},
		{"a/**/b", "a/x/b", true},
		{"a/**/b", "a/b/b", true},
		{"a/**/b", "a/b/x/b", true},
		{"**/**", "a", true},
		{"**/*", "a", true},
		{"*/**", "a", true},
		{"**/*/**", "a", true},
		{"**/a/**", "x/a/y", true},
		{"**/a/**", "a", true},
		{"**/a/**/a/**", "a/a", true},
		{"**/**/**/**/**/**/**/8", deepest, true},
		{"**/**/**/**/**/**/**/**", "a", true},
		{"*/*/*/*/*/*/*/*", deepest, true},
		{deepest, deepest, true},
		{"a", "b", false},
		{"a", "ab", false},
		{"ab", "a", false},
		{"a", "a/b", false},
		{"a/b", "a", false},
		{"*", "a/b", false},
		{"*/*", "a", false},
		{"*/*", "a/b/c", false},
		{"a/*", "a", false},
		{"a/*", "b/b", false},
		{"a/*", "a/b/c", false},
		{"*/b", "b", false},
		{"a/**", "ab", false},
		{"a/**", "b/a", false},
		{"a/**", "ab/c", false},
		{"**/a", "a/b", false},
		{"**/a", "ba", false},
		{"a/**/b", "a", false},
		{"a/**/b", "b", false},
		{"a/**/b", "a/b/c", false},
		{"a/**/b", "a/c", false},
		{"a/**/a", "a", false},
		{"**/*/*", "a", false},
		{"*/**/*", "a", false},
		{"**/a/**", "x/y", false},
		{"**/a/**/a/**", "a", false},
		{"**/a/**/a/**", "b/a/b", false},
		{"**/**/**/**/**/**/**/9", deepest, false},
		{"*/*/*/*/*/*/*", deepest, false},
		// One isn't what it should be.
		{"", "", false},
		{"", "a", false},
		{"*", "", false},
		{"**", "", false},
		{"**", "/", false},
		{"**", "a/", false},
		{"**", "a//b", false},
		{"**", "A", false},
		{"*", "*", false},
		{"*", ".", false},
		{"**", "**", false},
		{"**", deepest + "/9", false},
		{"**", longest + "x", false},
		{"*", longest + "x", false},
		{"***", "a", false},
		{"a*", "ab", false},
		{"a*", "a", false},
		{"/a", "a", false},
		{"a/", "a", false},
		{"A", "A", false},
		{"A", "a", false},
		{"**/**/**/**/**/**/**/**/**", "a", false},
		{deepest + "/**", deepest, false},
		{longest[2:] + "/**", longest[2:], false},
	} {
		if path.Match(x.s, x.p) != x.want {
			t.Errorf("Match(%q, %q)", x.s, x.p)
		}
	}
}

// P4.4: all patterns of a few parts and all paths of a few parts, and deep ones, against the library.
func TestMatchAgainstLibrary(t *testing.T) {
	patterns, paths := inRows([]string{"a", "b", "*", "**"}, 5), inRows([]string{"a", "b"}, 6)
	r := rand.New(rand.NewSource(1))
	for range 500 {
		patterns = append(patterns, someRow(r, []string{"a", "b", "*", "**", "**"}))
		paths = append(paths, someRow(r, []string{"a", "b"}))
	}
	for _, s := range patterns {
		if !path.Pattern(s) {
			t.Errorf("Pattern(%q)", s)
		}
		model := matchModel(s)
		for _, p := range paths {
			if path.Match(s, p) != model.MatchString(p+"/") {
				t.Errorf("Match(%q, %q)", s, p)
			}
		}
	}
}

// inRows gives all texts of some parts, up to a depth.
func inRows(some []string, most int) []string {
	l := slices.Clone(some)
	last := l
	for range most - 1 {
		var next []string
		for _, s := range last {
			for _, x := range some {
				next = append(next, s+"/"+x)
			}
		}
		l = append(l, next...)
		last = next
	}
	return l
}

// someRow is a text of some parts, from one to eight.
func someRow(r *rand.Rand, some []string) string {
	l := make([]string, 1+r.Intn(8))
	for i := range l {
		l[i] = some[r.Intn(len(some))]
	}
	return strings.Join(l, "/")
}

// shares tells whether a text has memory of another one.
func shares(a, b string) bool {
	if a == "" || b == "" {
		return false
	}
	from, to := uintptr(unsafe.Pointer(unsafe.StringData(a))), uintptr(unsafe.Pointer(unsafe.StringData(b)))
	return from < to+uintptr(len(b)) && to < from+uintptr(len(a))
}

// The rule of memory: what is told is new, spare room too.
func TestMemory(t *testing.T) {
	for _, p := range right() {
		p := strings.Clone(p)
		if n, _ := path.Normal(p); shares(n, p) {
			t.Errorf("Normal(%q)", p)
		}
		if up, _ := path.Parent(p); shares(up, p) {
			t.Errorf("Parent(%q)", p)
		}
		if both, _ := path.Common(p, p); shares(both, p) {
			t.Errorf("Common(%q)", p)
		}
		a, b := path.Parts(p), path.Parts(p)
		want := slices.Clone(b)
		for _, x := range b {
			if shares(x, p) {
				t.Errorf("Parts(%q)", p)
			}
		}
		for i := range a[:cap(a)] {
			a[:cap(a)][i] = "x"
		}
		if !slices.Equal(b, want) || !slices.Equal(path.Parts(p), want) {
			t.Errorf("Parts(%q) are shared", p)
		}
	}
}

// P1: no call panics, each ends, and what it answers hangs on its arguments alone.
func TestNoPanic(t *testing.T) {
	r := rand.New(rand.NewSource(2))
	some := []string{"a", "b", "-", "/", "/", ".", "..", "*", "**", "A", "\x00", "\xff", "\xc3", "é", "\uFFFD", deepest, longest}
	mixed := func() string {
		var s string
		for range r.Intn(30) {
			s += some[r.Intn(len(some))]
		}
		return s
	}
	for range 20000 {
		s, p := mixed(), mixed()
		n, e := path.Normal(s)
		if m, f := normalModel(s); n != m || e != f || e == api.OK && !path.Right(n) {
			t.Fatalf("Normal(%q): %q %d", s, n, e)
		}
		if path.Compare(s, p) != -path.Compare(p, s) || path.Overlap(s, p) != path.Overlap(p, s) {
			t.Fatalf("%q %q", s, p)
		}
		if path.Right(s) && !path.Pattern(s) || path.Pattern(s) != isPattern(s) || path.Depth(s) != len(path.Parts(s)) {
			t.Fatalf("%q", s)
		}
		if path.Match(s, p) && !(isPattern(s) && isRight(p)) || path.Above(s, p) && path.Match(s, p) != (s == p) {
			t.Fatalf("%q %q", s, p)
		}
		path.Parent(s)
		path.Common(s, p)
	}
}

// P1: long texts, too, in a time that grows as they do.
func TestLongTexts(t *testing.T) {
	const n = 1 << 22
	for _, x := range []struct {
		s, p string
		e    api.Errno
	}{
		{strings.Repeat("/", n), "", api.ErrNone},
		{strings.Repeat("a/", n), "", api.ErrDeep},
		{strings.Repeat("a", n), "", api.ErrSize},
		{strings.Repeat("a/../", n) + "b", "b", api.OK},
		{"b/" + strings.Repeat("a/", n) + strings.Repeat("../", n), "b", api.OK},
		{strings.Repeat("a/", n) + strings.Repeat("../", n+1), "", api.ErrPath},
		{strings.Repeat("a", n) + "\xff", "", api.ErrPath},
	} {
		if p, e := path.Normal(x.s); p != x.p || e != x.e {
			t.Error(x.s[:10], p, e)
		}
		if path.Right(x.s) || path.Pattern(x.s) || path.Match("**", x.s) || path.Match(x.s, "a") || path.Depth(x.s) != 0 || path.Compare(x.s, x.s) != 0 {
			t.Error(x.s[:10])
		}
	}
}

func FuzzPath(f *testing.F) {
	f.Add("/a//b/../c", "a/**")
	f.Add(deepest, "*/*/*/*/*/*/*/*")
	f.Add(longest, "é/\xff")
	f.Fuzz(func(t *testing.T, s, q string) {
		p, e := path.Normal(s)
		if m, f := normalModel(s); p != m || e != f {
			t.Error(p, e)
		}
		if path.Right(s) != isRight(s) || path.Pattern(q) != isPattern(q) {
			t.Error(s, q)
		}
		if want := isPattern(q) && isRight(p) && matchModel(q).MatchString(p+"/"); path.Match(q, p) != want {
			t.Error(q, p)
		}
	})
}
