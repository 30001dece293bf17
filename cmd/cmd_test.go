package cmd_test

import (
	"bytes"
	"encoding/binary"
	"fmt"
	"math"
	"math/rand"
	"regexp"
	"strconv"
	"strings"
	"testing"
	"unsafe"

	"moothill/api"
	"moothill/cmd"
	"moothill/path"
	"moothill/wire"
)

const (
	mostTime  = 1 << 40
	mostTtl   = 1 << 20
	mostCheck = 1<<63 - 1
)

// long64 is a path of 64 bytes, long65 one byte more; deep8 has eight parts, deep9 nine.
var (
	long64 = strings.Repeat("x", 64)
	long65 = strings.Repeat("x", 65)
	deep8  = "a/b/c/d/e/f/g/h"
	deep9  = deep8 + "/i"
)

// paths gives paths, and texts that aren't any.
func paths() []string {
	return []string{"", "a", "a/b", "-_09/z", long64, deep8, long65, deep9, "/", "a/", "/a", "a//b", "A", "a b", "a.b", "*", "é", "\x00", "\xff", " "}
}

// session gives a session.
func session(num uint64, foot string) cmd.Session {
	return cmd.Session{Num: num, Foot: foot}
}

// some gives a right command of each kind, with all that its kind has.
func some() []cmd.Cmd {
	s := session(7, "a")
	return []cmd.Cmd{
		{},
		{Kind: cmd.Open, Session: s, Request: 300, N: 200, Time: 5},
		{Kind: cmd.Close, Session: s, Request: 300},
		{Kind: cmd.Keep, Session: s, Request: 300, Time: 5},
		{Kind: cmd.Acquire, Session: s, Request: 300, Path: "b/c", Mode: cmd.Shared},
		{Kind: cmd.Try, Session: s, Request: 300, Path: "b/c", Mode: cmd.Exclusive},
		{Kind: cmd.Release, Session: s, Request: 300, Path: "b/c"},
		{Kind: cmd.Check, Session: s, Request: 300, Path: "b/c", N: 200},
		{Kind: cmd.Expire, Session: s, Time: 5},
	}
}

// isRight tells, kind by kind, whether a command may be.
func isRight(c cmd.Cmd) bool {
	if c.Kind == 0 {
		return c == cmd.Cmd{}
	}
	if !path.Right(c.Session.Foot) {
		return false
	}
	asked, placed := c.Request > 0, c.Request > 0 && path.Right(c.Path)
	moded := c.Mode == 1 || c.Mode == 2
	timed := c.Time >= 0 && c.Time <= mostTime
	switch c.Kind {
	case 1:
		return asked && c.Path == "" && c.Mode == 0 && c.N >= 1 && c.N <= mostTtl && timed
	case 2:
		return asked && c.Path == "" && c.Mode == 0 && c.N == 0 && c.Time == 0
	case 3:
		return asked && c.Path == "" && c.Mode == 0 && c.N == 0 && timed
	case 4, 5:
		return placed && moded && c.N == 0 && c.Time == 0
	case 6:
		return placed && c.Mode == 0 && c.N == 0 && c.Time == 0
	case 7:
		return placed && c.Mode == 0 && c.N >= 1 && c.N <= mostCheck && c.Time == 0
	case 8:
		return c.Request == 0 && c.Path == "" && c.Mode == 0 && c.N == 0 && timed
	}
	return false
}

// kinds gives the kinds, and numbers that aren't any.
func kinds() []int {
	return []int{0, 1, 2, 3, 4, 5, 6, 7, 8, 9, 10, -1, -8, 255, 256, 257, 264, 1 << 32, 1<<32 + 4, math.MinInt, math.MaxInt}
}

// many goes over commands with some values of each part, of each kind.
func many(f func(c cmd.Cmd)) {
	places := []string{"", "a/b", "B"}
	for _, k := range kinds() {
		for _, num := range []uint64{0, math.MaxUint64} {
			for _, foot := range places {
				for _, q := range []uint64{0, 1, math.MaxUint64} {
					for _, p := range places {
						for _, m := range []int{0, 1, 2, 3, -1} {
							for _, n := range []uint64{0, 1, mostTtl, mostTtl + 1, mostCheck, mostCheck + 1} {
								for _, at := range []int{0, 1, mostTime, mostTime + 1, -1} {
									f(cmd.Cmd{Kind: k, Session: session(num, foot), Request: q, Path: p, Mode: m, N: n, Time: at})
								}
							}
						}
					}
				}
			}
		}
	}
}

// near goes over the commands of some with one part made another one.
func near(f func(c cmd.Cmd)) {
	for _, c := range some() {
		f(c)
		for _, v := range []uint64{0, 1, 2, 127, 128, 255, 256, mostTtl - 1, mostTtl, mostTtl + 1, 1 << 32, mostCheck - 1, mostCheck, mostCheck + 1, math.MaxUint64} {
			d := c
			d.Session.Num = v
			f(d)
			d = c
			d.Request = v
			f(d)
			d = c
			d.N = v
			f(d)
		}
		for _, v := range []int{math.MinInt, -mostTime, -2, -1, 0, 1, 2, 3, 4, 255, 256, 257, 258, 1 << 32, mostTime - 1, mostTime, mostTime + 1, math.MaxInt} {
			d := c
			d.Time = v
			f(d)
			d = c
			d.Mode = v
			f(d)
			d = c
			d.Kind = v
			f(d)
		}
		for _, k := range kinds() {
			d := c
			d.Kind = k
			f(d)
		}
		for _, p := range paths() {
			d := c
			d.Session.Foot = p
			f(d)
			d = c
			d.Path = p
			f(d)
		}
	}
}

// P7.1: the kinds' and modes' numbers.
func TestNumbers(t *testing.T) {
	for n, k := range []int{cmd.Noop, cmd.Open, cmd.Close, cmd.Keep, cmd.Acquire, cmd.Try, cmd.Release, cmd.Check, cmd.Expire} {
		if k != n {
			t.Error(n, k)
		}
	}
	if cmd.Shared != 1 || cmd.Exclusive != 2 {
		t.Error(cmd.Shared, cmd.Exclusive)
	}
}

// P7.1
func TestRight(t *testing.T) {
	for _, c := range some() {
		if !c.Right() {
			t.Error(c)
		}
	}
	check := func(c cmd.Cmd) {
		if c.Right() != isRight(c) {
			t.Fatalf("%+v %v", c, c.Right())
		}
	}
	many(check)
	near(check)
}

// P7.1: the edges of what a command has.
func TestRightEdges(t *testing.T) {
	s := session(0, "a")
	for _, x := range []struct {
		c    cmd.Cmd
		want bool
	}{
		{cmd.Cmd{}, true},
		{cmd.Cmd{Session: session(1, "")}, false},
		{cmd.Cmd{Session: session(0, "a")}, false},
		{cmd.Cmd{Request: 1}, false},
		{cmd.Cmd{Path: "a"}, false},
		{cmd.Cmd{Mode: 1}, false},
		{cmd.Cmd{N: 1}, false},
		{cmd.Cmd{Time: 1}, false},
		{cmd.Cmd{Kind: 1, Session: s, Request: 1, N: 1}, true},
		{cmd.Cmd{Kind: 1, Session: s, Request: 1, N: mostTtl, Time: mostTime}, true},
		{cmd.Cmd{Kind: 1, Session: s, Request: 1}, false},
		{cmd.Cmd{Kind: 1, Session: s, Request: 1, N: mostTtl + 1}, false},
		{cmd.Cmd{Kind: 1, Session: s, Request: 1, N: 1, Time: mostTime + 1}, false},
		{cmd.Cmd{Kind: 1, Session: s, Request: 1, N: 1, Time: -1}, false},
		{cmd.Cmd{Kind: 1, Session: s, N: 1}, false},
		{cmd.Cmd{Kind: 1, Request: 1, N: 1}, false},
		{cmd.Cmd{Kind: 2, Session: session(math.MaxUint64, long64), Request: math.MaxUint64}, true},
		{cmd.Cmd{Kind: 2, Session: session(1, long65), Request: 1}, false},
		{cmd.Cmd{Kind: 2, Session: session(1, deep8), Request: 1}, true},
		{cmd.Cmd{Kind: 2, Session: session(1, deep9), Request: 1}, false},
		{cmd.Cmd{Kind: 2, Session: s, Request: 1, Time: 1}, false},
		{cmd.Cmd{Kind: 3, Session: s, Request: 1}, true},
		{cmd.Cmd{Kind: 3, Session: s, Request: 1, N: 1}, false},
		{cmd.Cmd{Kind: 4, Session: s, Request: 1, Path: "b", Mode: 1}, true},
		{cmd.Cmd{Kind: 4, Session: s, Request: 1, Path: "b", Mode: 3}, false},
		{cmd.Cmd{Kind: 4, Session: s, Request: 1, Path: "b"}, false},
		{cmd.Cmd{Kind: 4, Session: s, Request: 1, Path: "/b", Mode: 1}, false},
		// A path needn't lie below the footprint of the session.
		{cmd.Cmd{Kind: 5, Session: session(1, "a/b"), Request: 1, Path: "a", Mode: 2}, true},
		{cmd.Cmd{Kind: 6, Session: s, Request: 1, Path: "b"}, true},
		{cmd.Cmd{Kind: 6, Session: s, Request: 1, Path: "b", Mode: 1}, false},
		{cmd.Cmd{Kind: 7, Session: s, Request: 1, Path: "b", N: 1}, true},
		{cmd.Cmd{Kind: 7, Session: s, Request: 1, Path: "b", N: mostCheck}, true},
		{cmd.Cmd{Kind: 7, Session: s, Request: 1, Path: "b", N: mostCheck + 1}, false},
		{cmd.Cmd{Kind: 7, Session: s, Request: 1, Path: "b"}, false},
		{cmd.Cmd{Kind: 8, Session: s}, true},
		{cmd.Cmd{Kind: 8, Session: s, Time: mostTime}, true},
		{cmd.Cmd{Kind: 8, Session: s, Request: 1}, false},
		{cmd.Cmd{Kind: 9}, false},
		{cmd.Cmd{Kind: 9, Session: s, Time: 1}, false},
		{cmd.Cmd{Kind: -1}, false},
		{cmd.Cmd{Kind: 256}, false},
	} {
		if got := x.c.Right(); got != x.want {
			t.Errorf("%+v %v", x.c, got)
		}
	}
}

// P7.1
func TestFootAndClient(t *testing.T) {
	check := func(c cmd.Cmd) {
		var want string
		has := isRight(c) && c.Kind != 0
		switch {
		case !has:
		case c.Kind >= 4 && c.Kind <= 7:
			want = c.Path
		default:
			want = c.Session.Foot
		}
		if f, ok := c.Foot(); f != want || ok != has {
			t.Fatalf("%+v %q %v", c, f, ok)
		}
		if got := c.Client(); got != (has && c.Kind != 8) {
			t.Fatalf("%+v %v", c, got)
		}
	}
	many(check)
	near(check)
	for _, c := range some() {
		check(c)
	}
}

// P7.1
func TestFootOfSome(t *testing.T) {
	for n, want := range []string{"", "a", "a", "a", "b/c", "b/c", "b/c", "b/c", "a"} {
		c := some()[n]
		if f, ok := c.Foot(); f != want || ok != (n > 0) {
			t.Error(c, f, ok)
		}
		if c.Client() != (n > 0 && n < 8) {
			t.Error(c, c.Client())
		}
	}
}

// bytesOf gives, kind by kind, a right command's bytes.
func bytesOf(c cmd.Cmd) []byte {
	text := func(b []byte, s string) []byte { return append(binary.AppendUvarint(b, uint64(len(s))), s...) }
	b := []byte{byte(c.Kind)}
	if c.Kind == 0 {
		return b
	}
	b = text(binary.BigEndian.AppendUint64(b, c.Session.Num), c.Session.Foot)
	switch c.Kind {
	case 1:
		return binary.AppendUvarint(binary.AppendUvarint(binary.AppendUvarint(b, c.Request), c.N), uint64(c.Time))
	case 2:
		return binary.AppendUvarint(b, c.Request)
	case 3:
		return binary.AppendUvarint(binary.AppendUvarint(b, c.Request), uint64(c.Time))
	case 4, 5:
		return append(text(binary.AppendUvarint(b, c.Request), c.Path), byte(c.Mode))
	case 6:
		return text(binary.AppendUvarint(b, c.Request), c.Path)
	case 7:
		return binary.AppendUvarint(text(binary.AppendUvarint(b, c.Request), c.Path), c.N)
	}
	return binary.AppendUvarint(b, uint64(c.Time))
}

// P7.2
func TestBytesOfSome(t *testing.T) {
	const head = "\x00\x00\x00\x00\x00\x00\x00\x07\x01a"
	for n, want := range []string{
		"\x00",
		"\x01" + head + "\xac\x02\xc8\x01\x05",
		"\x02" + head + "\xac\x02",
		"\x03" + head + "\xac\x02\x05",
		"\x04" + head + "\xac\x02\x03b/c\x01",
		"\x05" + head + "\xac\x02\x03b/c\x02",
		"\x06" + head + "\xac\x02\x03b/c",
		"\x07" + head + "\xac\x02\x03b/c\xc8\x01",
		"\x08" + head + "\x05",
	} {
		if got := some()[n].Bytes(); string(got) != want {
			t.Errorf("%d %x", n, got)
		}
		if got, e := cmd.Parse([]byte(want)); got != some()[n] || e != api.OK {
			t.Errorf("%d %+v %v", n, got, e)
		}
	}
}

// P7.2: a right command comes back from its bytes; another one's are a Noop's.
func TestBytes(t *testing.T) {
	check := func(c cmd.Cmd) {
		o := new(wire.Out).Byte(9)
		c.Put(o)
		o.Byte(8)
		want, back := []byte{0}, cmd.Cmd{}
		if isRight(c) {
			want, back = bytesOf(c), c
		}
		if got := c.Bytes(); !bytes.Equal(got, want) {
			t.Fatalf("%+v %x %x", c, got, want)
		}
		if got := o.Bytes(); got[0] != 9 || got[len(got)-1] != 8 || !bytes.Equal(got[1:len(got)-1], want) {
			t.Fatalf("%+v %x", c, got)
		}
		if got, e := cmd.Parse(want); got != back || e != api.OK {
			t.Fatalf("%+v %+v %v", c, got, e)
		}
		in := wire.NewIn(o.Bytes())
		in.Byte()
		if got := cmd.Take(in); got != back || in.Failed() || in.Left() != 1 || in.Byte() != 8 || in.End() != api.OK {
			t.Fatalf("%+v %+v %v", c, got, in.End())
		}
	}
	many(check)
	near(check)
}

// P7.2: several in a row.
func TestTakeInARow(t *testing.T) {
	o := new(wire.Out)
	for _, c := range some() {
		c.Put(o)
	}
	in := wire.NewIn(o.Bytes())
	for _, c := range some() {
		if got := cmd.Take(in); got != c {
			t.Error(c, got)
		}
	}
	if in.End() != api.OK {
		t.Error(in.End())
	}
}

// isRefused tells that bytes are refused by an error, in each way.
func isRefused(t *testing.T, b string, e api.Errno) {
	t.Helper()
	in := wire.NewIn([]byte(b))
	if c := cmd.Take(in); c != (cmd.Cmd{}) || !in.Failed() || in.End() != e || in.Left() != 0 {
		t.Errorf("%x %+v %v", b, c, in.End())
	}
	if c, got := cmd.Parse([]byte(b)); c != (cmd.Cmd{}) || got != e {
		t.Errorf("%x %+v %v", b, c, got)
	}
	// Whatever stands behind, it is refused by that: nothing is missing there.
	if e == api.ErrShort {
		return
	}
	if c, got := cmd.Parse(append([]byte(b), 0, 0, 0)); c != (cmd.Cmd{}) || got != e {
		t.Errorf("%x and more: %+v %v", b, c, got)
	}
}

// P7.2
func TestTakeWrong(t *testing.T) {
	const num = "\x00\x00\x00\x00\x00\x00\x00\x07"
	const head = num + "\x01a"
	const most = "\xff\xff\xff\xff\xff\xff\xff\xff\xff\x01"
	for _, x := range []struct {
		b string
		e api.Errno
	}{
		{"", api.ErrShort},
		// The Foot.
		{"\x02" + num + "\x00\x01", api.ErrForm},
		{"\x02" + num + "\x01A\x01", api.ErrForm},
		{"\x02" + num + "\x02a/\x01", api.ErrForm},
		{"\x02" + num + "\x41" + long65 + "\x01", api.ErrRange},
		{"\x02" + num + "\x41", api.ErrRange},
		{"\x02" + num + "\x80\x00", api.ErrForm},
		{"\x02" + num + "\x80", api.ErrShort},
		{"\x02" + num + "\x11" + deep9 + "\x01", api.ErrForm},
		// The Request.
		{"\x02" + head + "\x00", api.ErrForm},
		{"\x02" + head + "\x81\x00", api.ErrForm},
		{"\x02" + head + "\xff\xff\xff\xff\xff\xff\xff\xff\xff\x02", api.ErrRange},
		{"\x02" + head + "\xff", api.ErrShort},
		// The N.
		{"\x01" + head + "\x01\x00\x05", api.ErrForm},
		{"\x01" + head + "\x01\x81\x80\x40\x05", api.ErrForm},
		{"\x01" + head + "\x01" + most + "\x05", api.ErrForm},
		{"\x07" + head + "\x01\x01b\x00", api.ErrForm},
		{"\x07" + head + "\x01\x01b\x80\x80\x80\x80\x80\x80\x80\x80\x80\x01", api.ErrForm},
		{"\x07" + head + "\x01\x01b" + most, api.ErrForm},
		{"\x07" + head + "\x01\x01b\xff\xff\xff\xff\xff\xff\xff\xff\xff\x02", api.ErrRange},
		// The Time.
		{"\x03" + head + "\x01\x81\x80\x80\x80\x80\x20", api.ErrRange},
		{"\x03" + head + "\x01" + most, api.ErrRange},
		{"\x08" + head + "\x81\x80\x80\x80\x80\x20", api.ErrRange},
		{"\x01" + head + "\x01\x01\x81\x80\x80\x80\x80\x20", api.ErrRange},
		// The Path.
		{"\x06" + head + "\x01\x00", api.ErrForm},
		{"\x06" + head + "\x01\x01 ", api.ErrForm},
		{"\x06" + head + "\x01\x41" + long65, api.ErrRange},
		{"\x06" + head + "\x01\x02b", api.ErrShort},
		// The Mode.
		{"\x04" + head + "\x01\x01b\x00", api.ErrForm},
		{"\x04" + head + "\x01\x01b\x03", api.ErrForm},
		{"\x05" + head + "\x01\x01b\xff", api.ErrForm},
		// An error of a part ahead of ErrForm, wherever it stands.
		{"\x02" + num + "\x00", api.ErrShort},
		{"\x06" + head + "\x00\x01", api.ErrShort},
		{"\x03" + head + "\x00\x81\x80\x80\x80\x80\x20", api.ErrRange},
		{"\x04" + num + "\x01A\x00\x41", api.ErrRange},
		{"\x01" + head + "\x01\x00", api.ErrShort},
	} {
		isRefused(t, x.b, x.e)
	}
	// The greatest of each.
	for _, x := range []struct {
		b    string
		want cmd.Cmd
	}{
		{"\x02" + num + "\x40" + long64 + most, cmd.Cmd{Kind: 2, Session: session(7, long64), Request: math.MaxUint64}},
		{"\x01" + head + "\x01\x80\x80\x40\x80\x80\x80\x80\x80\x20", cmd.Cmd{Kind: 1, Session: session(7, "a"), Request: 1, N: mostTtl, Time: mostTime}},
		{"\x07" + head + "\x01\x01b\xff\xff\xff\xff\xff\xff\xff\xff\x7f", cmd.Cmd{Kind: 7, Session: session(7, "a"), Request: 1, Path: "b", N: mostCheck}},
	} {
		if got, e := cmd.Parse([]byte(x.b)); got != x.want || e != api.OK {
			t.Errorf("%x %+v %v", x.b, got, e)
		}
	}
}

// P7.2: of each byte ahead.
func TestTakeEachKind(t *testing.T) {
	for k := range 256 {
		switch {
		case k > 8:
			isRefused(t, string([]byte{byte(k)}), api.ErrKind)
			isRefused(t, string([]byte{byte(k)})+strings.Repeat("\x01", 40), api.ErrKind)
		case k > 0:
			isRefused(t, string([]byte{byte(k)}), api.ErrShort)
		}
	}
}

// P7.2: cut anywhere, and with more behind it.
func TestParseCut(t *testing.T) {
	check := func(c cmd.Cmd) {
		b := c.Bytes()
		for n := range b {
			isRefused(t, string(b[:n]), api.ErrShort)
		}
		for _, more := range []string{"\x00", "\xff", strings.Repeat("\x01", 1000)} {
			if got, e := cmd.Parse(append(bytes.Clone(b), more...)); got != (cmd.Cmd{}) || e != api.ErrLong {
				t.Fatalf("%+v %+v %v", c, got, e)
			}
		}
	}
	near(check)
	if c, e := cmd.Parse(nil); c != (cmd.Cmd{}) || e != api.ErrShort {
		t.Error(c, e)
	}
}

// P7.2: an input that has failed keeps its error, and a Noop is taken from it.
func TestTakeFromFailed(t *testing.T) {
	for _, c := range some() {
		for _, e := range []api.Errno{api.ErrSum, api.ErrKind, api.ErrShort, 99, -1} {
			in := wire.NewIn(c.Bytes())
			in.Fail(e)
			if got := cmd.Take(in); got != (cmd.Cmd{}) || in.End() != e {
				t.Error(c, got, in.End())
			}
		}
	}
	in := wire.NewIn(append([]byte{9}, some()[4].Bytes()...))
	for range 3 {
		if got := cmd.Take(in); got != (cmd.Cmd{}) || in.End() != api.ErrKind {
			t.Error(got, in.End())
		}
	}
}

// take is, kind by kind, the command of bytes.
func take(b []byte) (cmd.Cmd, api.Errno) {
	in := wire.NewIn(b)
	c := cmd.Cmd{Kind: int(in.Byte())}
	if c.Kind > 8 {
		return cmd.Cmd{}, api.ErrKind
	}
	most := uint64(math.MaxUint64)
	if c.Kind > 0 {
		c.Session = session(in.Fixed(), in.Text(64))
	}
	switch c.Kind {
	case 1:
		c.Request, c.N, c.Time = in.Short(most), in.Short(most), int(in.Short(mostTime))
	case 2:
		c.Request = in.Short(most)
	case 3:
		c.Request, c.Time = in.Short(most), int(in.Short(mostTime))
	case 4, 5:
		c.Request, c.Path, c.Mode = in.Short(most), in.Text(64), int(in.Byte())
	case 6:
		c.Request, c.Path = in.Short(most), in.Text(64)
	case 7:
		c.Request, c.Path, c.N = in.Short(most), in.Text(64), in.Short(most)
	case 8:
		c.Time = int(in.Short(mostTime))
	}
	switch {
	case in.Failed():
		return cmd.Cmd{}, in.End()
	case !isRight(c):
		return cmd.Cmd{}, api.ErrForm
	case in.Left() > 0:
		return cmd.Cmd{}, api.ErrLong
	}
	return c, api.OK
}

// holdsParse holds Parse against the chapter's words, and a command that is told against its own bytes.
func holdsParse(t *testing.T, b []byte) {
	t.Helper()
	want, e := take(b)
	got, err := cmd.Parse(b)
	if got != want || err != e {
		t.Fatalf("%x %+v %v not %+v %v", b, got, err, want, e)
	}
	if e == api.OK && !bytes.Equal(got.Bytes(), b) {
		t.Fatalf("%x %+v %x", b, got, got.Bytes())
	}
}

// P7.2: right commands' bytes with some bytes made other ones, left out, or put between.
func TestParseSpoilt(t *testing.T) {
	random := rand.New(rand.NewSource(7))
	for _, c := range some() {
		b := c.Bytes()
		for at := range b {
			for v := range 256 {
				d := bytes.Clone(b)
				d[at] = byte(v)
				holdsParse(t, d)
				holdsParse(t, append(append(bytes.Clone(b[:at]), byte(v)), b[at:]...))
			}
			holdsParse(t, append(bytes.Clone(b[:at]), b[at+1:]...))
		}
	}
	for range 100000 {
		b := make([]byte, random.Intn(30))
		for n := range b {
			b[n] = "\x00\x01\x02\x03\x04\x05\x06\x07\x08ab/A\x80\xff"[random.Intn(15)]
		}
		holdsParse(t, b)
	}
}

// showOf is, kind by kind, a right command's text.
func showOf(c cmd.Cmd) string {
	s := fmt.Sprintf(" num=%d foot=%s", c.Session.Num, c.Session.Foot)
	r := fmt.Sprintf("%s request=%d", s, c.Request)
	p := fmt.Sprintf("%s path=%s", r, c.Path)
	switch c.Kind {
	case 1:
		return fmt.Sprintf("open%s n=%d time=%d", r, c.N, c.Time)
	case 2:
		return "close" + r
	case 3:
		return fmt.Sprintf("keep%s time=%d", r, c.Time)
	case 4:
		return fmt.Sprintf("acquire%s mode=%d", p, c.Mode)
	case 5:
		return fmt.Sprintf("try%s mode=%d", p, c.Mode)
	case 6:
		return "release" + p
	case 7:
		return fmt.Sprintf("check%s n=%d", p, c.N)
	case 8:
		return fmt.Sprintf("expire%s time=%d", s, c.Time)
	}
	return "noop"
}

// P7.3
func TestShowSome(t *testing.T) {
	for n, want := range []string{
		"noop",
		"open num=7 foot=a request=300 n=200 time=5",
		"close num=7 foot=a request=300",
		"keep num=7 foot=a request=300 time=5",
		"acquire num=7 foot=a request=300 path=b/c mode=1",
		"try num=7 foot=a request=300 path=b/c mode=2",
		"release num=7 foot=a request=300 path=b/c",
		"check num=7 foot=a request=300 path=b/c n=200",
		"expire num=7 foot=a time=5",
	} {
		if s, e := some()[n].Show(); s != want || e != api.OK {
			t.Error(n, s, e)
		}
		if c, e := cmd.Read(want); c != some()[n] || e != api.OK {
			t.Error(n, c, e)
		}
	}
}

// P7.3: a right command comes back from its text; another one has none.
func TestShow(t *testing.T) {
	check := func(c cmd.Cmd) {
		s, e := c.Show()
		if !isRight(c) {
			if s != "" || e != api.ErrForm {
				t.Fatalf("%+v %q %v", c, s, e)
			}
			return
		}
		if s != showOf(c) || e != api.OK {
			t.Fatalf("%+v %q %v", c, s, e)
		}
		if got, e := cmd.Read(s); got != c || e != api.OK {
			t.Fatalf("%+v %q %+v %v", c, s, got, e)
		}
	}
	many(check)
	near(check)
}

// forms are the commands' texts, but for the limits of their numbers and paths.
var forms = func() []*regexp.Regexp {
	s := `num=(?P<num>N) foot=(?P<foot>P)`
	r := s + ` request=(?P<request>N)`
	p := r + ` path=(?P<path>P)`
	var l []*regexp.Regexp
	for _, x := range []string{
		`noop`, `open ` + r + ` n=(?P<n>N) time=(?P<time>N)`, `close ` + r, `keep ` + r + ` time=(?P<time>N)`,
		`acquire ` + p + ` mode=(?P<mode>N)`, `try ` + p + ` mode=(?P<mode>N)`, `release ` + p, `check ` + p + ` n=(?P<n>N)`,
		`expire ` + s + ` time=(?P<time>N)`,
	} {
		x = strings.NewReplacer(">N", ">0|[1-9][0-9]{0,19}", ">P", ">[-_/a-z0-9]+").Replace(x)
		l = append(l, regexp.MustCompile(`\A`+x+`\z`))
	}
	return l
}()

// readOf is the command of a text, if there is one.
func readOf(s string) (cmd.Cmd, bool) {
	for k, form := range forms {
		m := form.FindStringSubmatch(s)
		if m == nil {
			continue
		}
		c := cmd.Cmd{Kind: k}
		var bad error
		number := func(name string) uint64 {
			i := form.SubexpIndex(name)
			if i < 0 {
				return 0
			}
			v, err := strconv.ParseUint(m[i], 10, 64)
			if err != nil {
				bad = err
			}
			return v
		}
		text := func(name string) string {
			if i := form.SubexpIndex(name); i >= 0 {
				return m[i]
			}
			return ""
		}
		c.Session = session(number("num"), text("foot"))
		c.Request, c.Path, c.N = number("request"), text("path"), number("n")
		mode, at := number("mode"), number("time")
		if bad != nil || mode > 2 || at > mostTime {
			return cmd.Cmd{}, false
		}
		c.Mode, c.Time = int(mode), int(at)
		return c, isRight(c)
	}
	return cmd.Cmd{}, false
}

// holdsRead holds Read against the chapter's words.
func holdsRead(t *testing.T, s string) {
	t.Helper()
	want, ok := readOf(s)
	e := api.OK
	if !ok {
		want, e = cmd.Cmd{}, api.ErrForm
	}
	if got, err := cmd.Read(s); got != want || err != e {
		t.Fatalf("%.200q %+v %v not %+v %v", s, got, err, want, e)
	}
}

// P7.3
func TestReadWrong(t *testing.T) {
	for _, s := range []string{
		"", " ", "=", "n", "noo", "noop ", " noop", "noop noop", "Noop", "NOOP", "noop\n", "noop\x00", "noop num=0", "0", "nil", "nope",
		"open", "close", "expire", "shared", "opennum=7 foot=a request=1 n=1 time=0",
		"close num=7 foot=a", "close foot=a request=1", "close num=7 request=1", "close num=7 foot=a request=0", "close num=7 foot=a request=",
		"close num= foot=a request=1", "close num=7 foot= request=1", "close num=7 foot=A request=1", "close num=7 foot=a/ request=1",
		"close  num=7 foot=a request=1", "close num=7  foot=a request=1", "close num=7 foot=a request=1 ", " close num=7 foot=a request=1",
		"close foot=a num=7 request=1", "close num=7 request=1 foot=a", "close num=7 foot=a request=1 time=0", "close num=7 foot=a request=1 path=",
		"close num=07 foot=a request=1", "close num=00 foot=a request=1", "close num=+7 foot=a request=1", "close num=-7 foot=a request=1",
		"close num=7 foot=a request=01", "close num=7 foot=a request=1.", "close num=7 foot=a request=1e0", "close num=7 foot=a request=0x1",
		"close num=1_0 foot=a request=1", "close num=７ foot=a request=1", "close num==7 foot=a request=1", "close num:7 foot=a request=1",
		"close num 7 foot a request 1", "close 7 a 1", "close num=7=7 foot=a request=1", "close n=7 foot=a request=1", "close Num=7 foot=a request=1",
		"close num=18446744073709551616 foot=a request=1", "close num=99999999999999999999999 foot=a request=1", "close num=7 foot=a request=18446744073709551616",
		"close num=7 foot=" + long65 + " request=1", "close num=7 foot=" + deep9 + " request=1", "close num=7 foot=a b request=1",
		"close\tnum=7\tfoot=a\trequest=1", "close,num=7,foot=a,request=1",
		"open num=7 foot=a request=1 n=0 time=0", "open num=7 foot=a request=1 n=1048577 time=0", "open num=7 foot=a request=1 n=1 time=1099511627777",
		"open num=7 foot=a request=1 n=1 time=-1", "open num=7 foot=a request=1 n=1 time=-0", "open num=7 foot=a request=1 n=1 time=18446744073709551615",
		"open num=7 foot=a request=1 n=1 time=9223372036854775808", "open num=7 foot=a request=1 time=0 n=1", "open num=7 foot=a request=1 n=1",
		"acquire num=7 foot=a request=1 path=b mode=0", "acquire num=7 foot=a request=1 path=b mode=3", "acquire num=7 foot=a request=1 path=b mode=shared",
		"acquire num=7 foot=a request=1 path=b", "acquire num=7 foot=a request=1 mode=1", "acquire num=7 foot=a request=1 path= mode=1",
		"acquire num=7 foot=a request=1 path=b mode=18446744073709551617", "acquire num=7 foot=a request=1 path=b mode=4294967297",
		"check num=7 foot=a request=1 path=b n=0", "check num=7 foot=a request=1 path=b n=9223372036854775808",
		"expire num=7 foot=a request=1 time=0", "expire num=7 foot=a time=", "keep num=7 foot=a request=1 time=00",
		strings.Repeat(" ", 100000), strings.Repeat("close ", 20000), "close num=" + strings.Repeat("0", 100000) + "7 foot=a request=1",
		"close num=7 foot=" + strings.Repeat("a/", 50000) + "a request=1", "noop" + strings.Repeat(" ", 100000),
	} {
		if c, e := cmd.Read(s); c != (cmd.Cmd{}) || e != api.ErrForm {
			t.Errorf("%.100q %+v %v", s, c, e)
		}
		if _, ok := readOf(s); ok {
			t.Errorf("%.100q is one", s)
		}
	}
}

// P7.3: commands' texts with a byte made another one, left out, or put between, and with words changed.
func TestReadSpoilt(t *testing.T) {
	for _, c := range some() {
		s, _ := c.Show()
		for at := range len(s) {
			for v := range 256 {
				holdsRead(t, s[:at]+string([]byte{byte(v)})+s[at+1:])
				holdsRead(t, s[:at]+string([]byte{byte(v)})+s[at:])
			}
			holdsRead(t, s[:at]+s[at+1:])
			holdsRead(t, s[:at])
			holdsRead(t, s[at:])
			holdsRead(t, s[:at]+s)
		}
	}
	random := rand.New(rand.NewSource(8))
	words := []string{
		"noop", "open", "close", "keep", "acquire", "try", "release", "check", "expire", "num=1", "num=0", "num=01", "foot=a", "foot=a/b", "foot=",
		"request=1", "request=0", "path=b", "path=", "mode=1", "mode=2", "mode=3", "n=1", "n=0", "n=1048577", "time=0", "time=9", "time=", "",
	}
	for range 100000 {
		var l []string
		for range random.Intn(7) {
			l = append(l, words[random.Intn(len(words))])
		}
		holdsRead(t, strings.Join(l, " "))
	}
}

// P7.3: each command has a text of its own.
func TestTextsAreOnesOwn(t *testing.T) {
	owner := map[string]cmd.Cmd{}
	near(func(c cmd.Cmd) {
		s, e := c.Show()
		if e != api.OK {
			return
		}
		if was, ok := owner[s]; ok && was != c {
			t.Fatal(s, was, c)
		}
		owner[s] = c
	})
}

// P7.2: what is handed in is neither changed nor kept, what is told is new.
func TestMemory(t *testing.T) {
	for _, c := range some() {
		b := append(c.Bytes(), 1, 2, 3)
		given := b[:len(b)-3]
		got, e := cmd.Parse(given)
		if !bytes.Equal(b, append(c.Bytes(), 1, 2, 3)) {
			t.Errorf("%x", b)
		}
		for n := range b {
			b[n] = 'z'
		}
		if got != c || e != api.OK {
			t.Error(c, got, e)
		}
		told := c.Bytes()
		told = told[:cap(told)]
		for n := range told {
			told[n] = 0xee
		}
		if again := c.Bytes(); !bytes.Equal(again, bytesOf(c)) {
			t.Errorf("%x", again)
		}
	}
}

// isWithin tells whether a text lies in another one's memory.
func isWithin(s, of string) bool {
	a, b := uintptr(unsafe.Pointer(unsafe.StringData(s))), uintptr(unsafe.Pointer(unsafe.StringData(of)))
	return a >= b && a < b+uintptr(len(of))
}

// P7.1 and P7.3: texts that are told aren't those that were handed in.
func TestMemoryOfTexts(t *testing.T) {
	for _, c := range some()[1:] {
		if f, _ := c.Foot(); isWithin(f, c.Path) || isWithin(f, c.Session.Foot) {
			t.Error(c)
		}
		s, _ := c.Show()
		if got, _ := cmd.Read(s); isWithin(got.Session.Foot, s) || isWithin(got.Path, s) {
			t.Error(c)
		}
	}
}

// P1 and P7.2: no bytes make it panic.
func FuzzParse(f *testing.F) {
	for _, c := range some() {
		f.Add(c.Bytes())
	}
	f.Fuzz(func(t *testing.T, b []byte) { holdsParse(t, b) })
}

// P1 and P7.3: no text makes it panic.
func FuzzRead(f *testing.F) {
	for _, c := range some() {
		s, _ := c.Show()
		f.Add(s)
	}
	f.Fuzz(func(t *testing.T, s string) { holdsRead(t, s) })
}
