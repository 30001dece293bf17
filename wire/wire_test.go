package wire_test

import (
	"bytes"
	"encoding/binary"
	"math"
	"math/rand"
	"strings"
	"testing"

	"moothill/api"
	"moothill/num"
	"moothill/wire"
)

// taking takes one thing, and tells whether it is the zero one.
type taking struct {
	name string
	zero func(i *wire.In) bool
}

func takings() []taking {
	return []taking{
		{"Byte", func(i *wire.In) bool { return i.Byte() == 0 }},
		{"Truth", func(i *wire.In) bool { return !i.Truth() }},
		{"Short", func(i *wire.In) bool { return i.Short(math.MaxUint64) == 0 }},
		{"Fixed", func(i *wire.In) bool { return i.Fixed() == 0 }},
		{"Text", func(i *wire.In) bool { return i.Text(math.MaxInt) == "" }},
	}
}

// rowOf has n bytes c, and the bytes last behind them.
func rowOf(n int, c byte, last ...byte) []byte {
	return append(bytes.Repeat([]byte{c}, n), last...)
}

// roomy has the bytes of b, and spare room full of c.
func roomy(b []byte, c byte) []byte {
	return append(bytes.Clone(b), bytes.Repeat([]byte{c}, 32)...)[:len(b)]
}

// isFailed tells an input's error in all ways in which it may be told.
func isFailed(t *testing.T, i *wire.In, e api.Errno) {
	t.Helper()
	if !i.Failed() || i.Left() != 0 || i.End() != e {
		t.Error(i.Failed(), i.Left(), i.End(), "not", e)
	}
}

// isFine tells that an input has no error, and how many bytes are left.
func isFine(t *testing.T, i *wire.In, left int) {
	t.Helper()
	e := api.OK
	if left > 0 {
		e = api.ErrLong
	}
	if i.Failed() || i.Left() != left || i.End() != e {
		t.Error(i.Failed(), i.Left(), i.End(), "not", left)
	}
}

// P3.1
func TestOutZero(t *testing.T) {
	var o wire.Out
	if b := o.Bytes(); len(b) != 0 {
		t.Error(b)
	}
	if b := new(wire.Out).Bytes(); len(b) != 0 {
		t.Error(b)
	}
}

// P3.1
func TestOutThings(t *testing.T) {
	long := strings.Repeat("x", 300)
	for _, x := range []struct {
		name string
		put  func(o *wire.Out) *wire.Out
		want []byte
	}{
		{"byte", func(o *wire.Out) *wire.Out { return o.Byte(7) }, []byte{7}},
		{"byte 0", func(o *wire.Out) *wire.Out { return o.Byte(0) }, []byte{0}},
		{"byte 255", func(o *wire.Out) *wire.Out { return o.Byte(255) }, []byte{255}},
		{"true", func(o *wire.Out) *wire.Out { return o.Truth(true) }, []byte{1}},
		{"false", func(o *wire.Out) *wire.Out { return o.Truth(false) }, []byte{0}},
		{"short 0", func(o *wire.Out) *wire.Out { return o.Short(0) }, []byte{0}},
		{"short 127", func(o *wire.Out) *wire.Out { return o.Short(127) }, []byte{127}},
		{"short 128", func(o *wire.Out) *wire.Out { return o.Short(128) }, []byte{0x80, 1}},
		{"short 300", func(o *wire.Out) *wire.Out { return o.Short(300) }, []byte{0xac, 2}},
		{"short most", func(o *wire.Out) *wire.Out { return o.Short(math.MaxUint64) }, rowOf(9, 255, 1)},
		{"fixed 0", func(o *wire.Out) *wire.Out { return o.Fixed(0) }, make([]byte, 8)},
		{"fixed 1", func(o *wire.Out) *wire.Out { return o.Fixed(1) }, rowOf(7, 0, 1)},
		{"fixed", func(o *wire.Out) *wire.Out { return o.Fixed(0x0123456789abcdef) }, []byte{0x01, 0x23, 0x45, 0x67, 0x89, 0xab, 0xcd, 0xef}},
		{"fixed most", func(o *wire.Out) *wire.Out { return o.Fixed(math.MaxUint64) }, rowOf(8, 255)},
		{"no text", func(o *wire.Out) *wire.Out { return o.Text("") }, []byte{0}},
		{"text", func(o *wire.Out) *wire.Out { return o.Text("ab") }, []byte{2, 'a', 'b'}},
		{"text of any bytes", func(o *wire.Out) *wire.Out { return o.Text("\x00\xff\xc3\n") }, []byte{4, 0, 255, 0xc3, '\n'}},
		{"text by bytes, not characters", func(o *wire.Out) *wire.Out { return o.Text("é") }, []byte{2, 0xc3, 0xa9}},
		{"long text", func(o *wire.Out) *wire.Out { return o.Text(long) }, append([]byte{0xac, 2}, long...)},
	} {
		var o wire.Out
		if p := x.put(&o); p != &o {
			t.Error(x.name, "tells another one")
		}
		if b := o.Bytes(); !bytes.Equal(b, x.want) {
			t.Error(x.name, b)
		}
		x.put(o.Byte(9))
		if b := o.Bytes(); !bytes.Equal(b, append(append(bytes.Clone(x.want), 9), x.want...)) {
			t.Error(x.name, "behind others", b)
		}
	}
}

// P3.1: the chapter's example, and all things in one row.
func TestOutInARow(t *testing.T) {
	if b := new(wire.Out).Truth(true).Text("ab").Bytes(); !bytes.Equal(b, []byte{1, 2, 0x61, 0x62}) {
		t.Error(b)
	}
	b := new(wire.Out).Byte(5).Truth(false).Short(300).Fixed(258).Text("xyz").Bytes()
	if !bytes.Equal(b, []byte{5, 0, 0xac, 2, 0, 0, 0, 0, 0, 0, 1, 2, 3, 'x', 'y', 'z'}) {
		t.Error(b)
	}
}

// P3.1: to tell the bytes takes none of them away.
func TestOutBytesStay(t *testing.T) {
	var o wire.Out
	var want []byte
	for n := range 1000 {
		o.Byte(byte(n))
		want = append(want, byte(n))
		if b := o.Bytes(); !bytes.Equal(b, want) {
			t.Fatal(n, b)
		}
	}
}

// P3.2
func TestByte(t *testing.T) {
	i := wire.NewIn([]byte{0, 1, 255})
	if a, b := i.Byte(), i.Byte(); a != 0 || b != 1 {
		t.Error(a, b)
	}
	isFine(t, i, 1)
	if b := i.Byte(); b != 255 {
		t.Error(b)
	}
	isFine(t, i, 0)
	if b := i.Byte(); b != 0 {
		t.Error(b)
	}
	isFailed(t, i, api.ErrShort)
}

// P3.2
func TestTruth(t *testing.T) {
	i := wire.NewIn([]byte{1, 0, 1})
	if a, b, c := i.Truth(), i.Truth(), i.Truth(); !a || b || !c {
		t.Error(a, b, c)
	}
	isFine(t, i, 0)
	if i.Truth() {
		t.Error("nothing is true")
	}
	isFailed(t, i, api.ErrShort)
	for c := 2; c < 256; c++ {
		i := wire.NewIn([]byte{byte(c), 1})
		if i.Truth() {
			t.Error(c)
		}
		isFailed(t, i, api.ErrForm)
	}
}

// P3.2
func TestShort(t *testing.T) {
	for _, x := range []struct {
		b    []byte
		most uint64
		v    uint64
		left int
		e    api.Errno
	}{
		{[]byte{0}, 0, 0, 0, api.OK},
		{[]byte{0, 9}, 0, 0, 1, api.OK},
		{[]byte{127}, 127, 127, 0, api.OK},
		{[]byte{127}, math.MaxUint64, 127, 0, api.OK},
		{[]byte{0xac, 2, 1, 1}, 300, 300, 2, api.OK},
		{[]byte{0xac, 2, 1, 1}, 301, 300, 2, api.OK},
		{rowOf(9, 255, 1, 7), math.MaxUint64, math.MaxUint64, 1, api.OK},
		{rowOf(8, 255, 127), math.MaxInt64, math.MaxInt64, 0, api.OK},
		{nil, 0, 0, 0, api.ErrShort},
		{[]byte{}, math.MaxUint64, 0, 0, api.ErrShort},
		{[]byte{0x80}, 5, 0, 0, api.ErrShort},
		{[]byte{0xff, 0xff}, 0, 0, 0, api.ErrShort},
		{[]byte{1}, 0, 0, 0, api.ErrRange},
		{[]byte{127}, 126, 0, 0, api.ErrRange},
		{[]byte{0xac, 2, 1, 1}, 299, 0, 0, api.ErrRange},
		{rowOf(9, 255, 1), math.MaxUint64 - 1, 0, 0, api.ErrRange},
		{rowOf(9, 255, 2), math.MaxUint64, 0, 0, api.ErrRange},
		{[]byte{0x80, 0}, 5, 0, 0, api.ErrForm},
		// Whatever most is, layer 1's error is named first.
		{[]byte{0xff, 0}, 5, 0, 0, api.ErrForm},
		{rowOf(9, 255, 0), 0, 0, 0, api.ErrForm},
	} {
		i := wire.NewIn(x.b)
		if v := i.Short(x.most); v != x.v {
			t.Error(x.b, x.most, v)
		}
		if x.e == api.OK {
			isFine(t, i, x.left)
		} else {
			isFailed(t, i, x.e)
		}
	}
}

// P3.2
func TestFixed(t *testing.T) {
	b := []byte{0x01, 0x23, 0x45, 0x67, 0x89, 0xab, 0xcd, 0xef, 255, 255, 255, 255, 255, 255, 255, 255, 1}
	i := wire.NewIn(b)
	if v := i.Fixed(); v != 0x0123456789abcdef {
		t.Error(v)
	}
	isFine(t, i, 9)
	if v := i.Fixed(); v != math.MaxUint64 {
		t.Error(v)
	}
	isFine(t, i, 1)
	for n := range 8 {
		i := wire.NewIn(b[:n])
		if v := i.Fixed(); v != 0 {
			t.Error(n, v)
		}
		isFailed(t, i, api.ErrShort)
	}
}

// P3.2
func TestText(t *testing.T) {
	long := strings.Repeat("y", 300)
	for _, x := range []struct {
		b    []byte
		most int
		s    string
		left int
		e    api.Errno
	}{
		{[]byte{0}, 0, "", 0, api.OK},
		{[]byte{0, 5}, 0, "", 1, api.OK},
		{[]byte{0}, -1, "", 0, api.OK},
		{[]byte{0}, math.MinInt, "", 0, api.OK},
		{[]byte{2, 'a', 'b'}, 2, "ab", 0, api.OK},
		{[]byte{2, 'a', 'b', 'c'}, 3, "ab", 1, api.OK},
		{[]byte{2, 'a', 'b'}, math.MaxInt, "ab", 0, api.OK},
		{[]byte{3, 0, 255, 0xc3, 1}, 3, "\x00\xff\xc3", 1, api.OK},
		{append([]byte{0xac, 2}, long...), 300, long, 0, api.OK},
		{nil, 0, "", 0, api.ErrShort},
		{nil, -1, "", 0, api.ErrShort},
		{[]byte{0x80}, 9, "", 0, api.ErrShort},
		{[]byte{1}, 9, "", 0, api.ErrShort},
		{[]byte{2, 'a'}, 2, "", 0, api.ErrShort},
		{append([]byte{0xac, 2}, long[1:]...), 300, "", 0, api.ErrShort},
		{append(num.Short(math.MaxInt64), 'a'), math.MaxInt, "", 0, api.ErrShort},
		{[]byte{2, 'a', 'b'}, 1, "", 0, api.ErrRange},
		{[]byte{1, 'a'}, 0, "", 0, api.ErrRange},
		{[]byte{1, 'a'}, -1, "", 0, api.ErrRange},
		{[]byte{1, 'a'}, math.MinInt, "", 0, api.ErrRange},
		{append([]byte{0xac, 2}, long...), 299, "", 0, api.ErrRange},
		// Too few bytes, too: but the count's error is named first.
		{[]byte{2, 'a'}, 1, "", 0, api.ErrRange},
		{[]byte{3}, 2, "", 0, api.ErrRange},
		{append(num.Short(math.MaxInt64+1), 'a'), math.MaxInt, "", 0, api.ErrRange},
		{append(num.Short(math.MaxUint64), 'a'), math.MaxInt, "", 0, api.ErrRange},
		{rowOf(9, 255, 2), math.MaxInt, "", 0, api.ErrRange},
		{[]byte{0x81, 0, 'a', 'b'}, 9, "", 0, api.ErrForm},
	} {
		i := wire.NewIn(x.b)
		if s := i.Text(x.most); s != x.s {
			t.Error(x.b, x.most, s)
		}
		if x.e == api.OK {
			isFine(t, i, x.left)
		} else {
			isFailed(t, i, x.e)
		}
	}
}

// P3.2: bytes in the spare room of what is handed in aren't its own.
func TestTakingLeavesSpareRoom(t *testing.T) {
	for _, x := range takings() {
		for _, b := range [][]byte{nil, {}} {
			i := wire.NewIn(roomy(b, 1))
			if !x.zero(i) {
				t.Error(x.name, b)
			}
			isFailed(t, i, api.ErrShort)
		}
	}
	i := wire.NewIn(roomy([]byte{5, 'a'}, 'b'))
	if s := i.Text(5); s != "" {
		t.Error(s)
	}
	isFailed(t, i, api.ErrShort)
}

// P3.2: where one taking has failed, all others take zero, and the first error stays.
func TestFirstErrorStays(t *testing.T) {
	rest := []byte{1, 1, 1, 1, 1, 1, 1, 1, 1, 1, 1, 1}
	for _, x := range []struct {
		first []byte
		fail  func(i *wire.In)
		e     api.Errno
	}{
		{[]byte{2}, func(i *wire.In) { i.Truth() }, api.ErrForm},
		{[]byte{6}, func(i *wire.In) { i.Short(5) }, api.ErrRange},
		{[]byte{0x80, 0}, func(i *wire.In) { i.Short(5) }, api.ErrForm},
		{[]byte{2}, func(i *wire.In) { i.Text(1) }, api.ErrRange},
		{[]byte{100}, func(i *wire.In) { i.Text(100) }, api.ErrShort},
		{nil, func(i *wire.In) { i.Fail(api.ErrBallot) }, api.ErrBallot},
		{nil, func(i *wire.In) { i.Fail(api.ErrKind) }, api.ErrKind},
		{nil, func(i *wire.In) { i.Fail(-1) }, -1},
	} {
		for _, y := range takings() {
			i := wire.NewIn(append(bytes.Clone(x.first), rest...))
			x.fail(i)
			isFailed(t, i, x.e)
			if !y.zero(i) || !y.zero(i) {
				t.Error(x.first, x.e, y.name)
			}
			isFailed(t, i, x.e)
			i.Fail(api.ErrTwice)
			i.Fail(api.OK)
			isFailed(t, i, x.e)
		}
	}
}

// P3.3
func TestFail(t *testing.T) {
	i := wire.NewIn([]byte{7, 8})
	i.Fail(api.OK)
	isFine(t, i, 2)
	if b := i.Byte(); b != 7 {
		t.Error(b)
	}
	i.Fail(api.ErrPath)
	isFailed(t, i, api.ErrPath)
	i.Fail(api.ErrForm)
	isFailed(t, i, api.ErrPath)
	i.Fail(api.OK)
	isFailed(t, i, api.ErrPath)
	empty := wire.NewIn(nil)
	empty.Fail(api.ErrDeep)
	isFailed(t, empty, api.ErrDeep)
}

// P3.3
func TestLeft(t *testing.T) {
	i := wire.NewIn([]byte{1, 1, 0xac, 2, 0, 0, 0, 0, 0, 0, 0, 9, 3, 'a', 'b', 'c', 4})
	isFine(t, i, 17)
	i.Byte()
	isFine(t, i, 16)
	i.Truth()
	isFine(t, i, 15)
	i.Short(300)
	isFine(t, i, 13)
	i.Fixed()
	isFine(t, i, 5)
	i.Text(3)
	isFine(t, i, 1)
	i.Byte()
	isFine(t, i, 0)
	isFine(t, wire.NewIn(nil), 0)
	isFine(t, wire.NewIn([]byte{}), 0)
}

// P3.3: bytes that are left at the end are an error of the end alone: it isn't kept.
func TestEndChangesNothing(t *testing.T) {
	i := wire.NewIn([]byte{7, 1})
	if e := i.End(); e != api.ErrLong {
		t.Error(e)
	}
	isFine(t, i, 2)
	if b := i.Byte(); b != 7 {
		t.Error(b)
	}
	if e := i.End(); e != api.ErrLong {
		t.Error(e)
	}
	if !i.Truth() {
		t.Error("not true")
	}
	isFine(t, i, 0)
	i.Fail(api.ErrStep)
	isFailed(t, i, api.ErrStep)
}

// thing is something that is put, in the model.
type thing struct {
	kind int
	v    uint64
	s    string
}

func someThing(r *rand.Rand) thing {
	s := make([]byte, r.Intn(1+r.Intn(200)))
	r.Read(s)
	x := thing{kind: r.Intn(5), v: r.Uint64() >> r.Intn(64), s: string(s)}
	if x.kind == 1 {
		x.v &= 1
	}
	return x
}

func (x thing) put(o *wire.Out) {
	switch x.kind {
	case 0:
		o.Byte(byte(x.v))
	case 1:
		o.Truth(x.v == 1)
	case 2:
		o.Short(x.v)
	case 3:
		o.Fixed(x.v)
	default:
		o.Text(x.s)
	}
}

// model puts the thing by the library.
func (x thing) model(b []byte) []byte {
	switch x.kind {
	case 0, 1:
		return append(b, byte(x.v))
	case 2:
		return binary.AppendUvarint(b, x.v)
	case 3:
		return binary.BigEndian.AppendUint64(b, x.v)
	}
	return append(binary.AppendUvarint(b, uint64(len(x.s))), x.s...)
}

// taken tells whether the thing was taken.
func (x thing) taken(i *wire.In) bool {
	switch x.kind {
	case 0:
		return i.Byte() == byte(x.v)
	case 1:
		return i.Truth() == (x.v == 1)
	case 2:
		return i.Short(x.v) == x.v
	case 3:
		return i.Fixed() == x.v
	}
	return i.Text(len(x.s)) == x.s
}

// P3.1, P3.2: whatever was put, in any order, is written as the chapter says, and taken again.
func TestPutAndTaken(t *testing.T) {
	r := rand.New(rand.NewSource(1))
	for range 500 {
		var o wire.Out
		var things []thing
		var want []byte
		for range r.Intn(40) {
			x := someThing(r)
			things = append(things, x)
			x.put(&o)
			want = x.model(want)
		}
		b := o.Bytes()
		if !bytes.Equal(b, want) {
			t.Fatal(things, b)
		}
		i := wire.NewIn(b)
		for _, x := range things {
			if !x.taken(i) || i.Failed() {
				t.Fatal(x, i.End())
			}
		}
		isFine(t, i, 0)
	}
}

// P3.2: cut off anywhere, the thing that was cut is told as too short.
func TestCutAnywhere(t *testing.T) {
	b := new(wire.Out).Byte(5).Truth(true).Short(300).Fixed(1).Text("abc").Bytes()
	for n := range b {
		i := wire.NewIn(b[:n])
		i.Byte()
		i.Truth()
		i.Short(300)
		i.Fixed()
		if s := i.Text(3); s != "" {
			t.Error(n, s)
		}
		isFailed(t, i, api.ErrShort)
	}
}

// The rule of memory: an Out's bytes are new each time, their spare room too.
func TestOutMemory(t *testing.T) {
	o := new(wire.Out).Text("abc").Fixed(5)
	want := bytes.Clone(o.Bytes())
	a, b := o.Bytes(), o.Bytes()
	for k := range a[:cap(a)] {
		a[:cap(a)][k] = 0xee
	}
	if !bytes.Equal(b, want) || !bytes.Equal(o.Bytes(), want) {
		t.Error("shared", b, o.Bytes())
	}
	for range 100 {
		o.Byte(0x55)
	}
	if !bytes.Equal(b, want) {
		t.Error("changed by what was put later", b)
	}
	_ = append(b, 0x77)
	if c := o.Bytes(); c[len(want)] != 0x55 {
		t.Error("spare room is shared", c)
	}
	var p, q wire.Out
	p.Text("abc")
	q.Text("xyz")
	if string(p.Bytes()) != "\x03abc" || string(q.Bytes()) != "\x03xyz" {
		t.Error("two share", p.Bytes(), q.Bytes())
	}
}

// The rule of memory: what an In is given is neither changed nor kept.
func TestInMemory(t *testing.T) {
	in := roomy([]byte{1, 2, 'a', 'b', 0xac, 2}, 0xee)
	was := bytes.Clone(in[:cap(in)])
	i, j := wire.NewIn(in), wire.NewIn(in)
	if !i.Truth() || i.Text(2) != "ab" || i.Short(300) != 300 {
		t.Error(i.End())
	}
	if !bytes.Equal(in[:cap(in)], was) {
		t.Error("changed", in[:cap(in)])
	}
	for k := range in[:cap(in)] {
		in[:cap(in)][k] = 0x55
	}
	if !j.Truth() || j.Text(2) != "ab" || j.Short(300) != 300 || j.End() != api.OK {
		t.Error("kept", j.End())
	}
}

// P1: no call panics, whatever it is given, in whatever order; what is answered hangs on that alone.
func TestNoPanic(t *testing.T) {
	r := rand.New(rand.NewSource(2))
	mosts := []int{math.MinInt, -1, 0, 1, 2, 64, 1 << 31, math.MaxInt}
	few := []byte{0, 1, 2, 3, 0x7f, 0x80, 0x81, 0xff}
	for range 20000 {
		b := make([]byte, r.Intn(24))
		for k := range b {
			b[k] = few[r.Intn(len(few))]
		}
		i, j := wire.NewIn(b), wire.NewIn(b)
		for range 8 {
			most := mosts[r.Intn(len(mosts))]
			left, failed := i.Left(), i.Failed()
			same, zero := false, false
			switch r.Intn(6) {
			case 0:
				x, y := i.Byte(), j.Byte()
				same, zero = x == y, x == 0
			case 1:
				x, y := i.Truth(), j.Truth()
				same, zero = x == y, !x
			case 2:
				x, y := i.Short(uint64(most)), j.Short(uint64(most))
				same, zero = x == y && x <= uint64(most), x == 0
			case 3:
				x, y := i.Fixed(), j.Fixed()
				same, zero = x == y, x == 0
			case 4:
				x, y := i.Text(most), j.Text(most)
				same, zero = x == y && len(x) <= max(most, 0), x == ""
			default:
				e := api.Errno(r.Intn(3) - 1)
				i.Fail(e)
				j.Fail(e)
				same, zero = true, true
			}
			if !same || i.Failed() && !zero || failed && !i.Failed() || i.Left() > left || i.End() != j.End() {
				t.Fatal(b, i, j)
			}
		}
	}
}

func FuzzIn(f *testing.F) {
	f.Add([]byte{1, 2, 0x61, 0x62}, 2)
	f.Add(new(wire.Out).Truth(false).Text("").Short(300).Fixed(5).Byte(1).Bytes(), 9)
	f.Fuzz(func(t *testing.T, b []byte, most int) {
		i := wire.NewIn(b)
		truth, s, v, w, c := i.Truth(), i.Text(most), i.Short(uint64(most)), i.Fixed(), i.Byte()
		o := new(wire.Out).Truth(truth).Text(s).Short(v).Fixed(w).Byte(c)
		if i.End() == api.OK && !bytes.Equal(o.Bytes(), b) {
			t.Error(o.Bytes())
		}
		if i.Failed() && c != 0 {
			t.Error(c)
		}
	})
}
