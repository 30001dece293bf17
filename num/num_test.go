package num_test

import (
	"bytes"
	"encoding/binary"
	"math"
	"math/rand"
	"strconv"
	"testing"

	"moothill/api"
	"moothill/num"
)

// edges are the numbers next to each power of two, and some others.
func edges() []uint64 {
	l := []uint64{0x0123456789abcdef, 300, 1 << 63, math.MaxUint64}
	for b := range 64 {
		p := uint64(1) << b
		l = append(l, p-1, p, p+1, ^p)
	}
	r := rand.New(rand.NewSource(1))
	for range 500 {
		l = append(l, r.Uint64()>>r.Intn(64))
	}
	return l
}

func hex(v uint64) string { return strconv.FormatUint(v, 16) }

// P1.1
func TestBytes(t *testing.T) {
	for _, x := range []struct {
		v    uint64
		n    int
		want []byte
	}{
		{0x1234567890abcdef, 8, []byte{0x12, 0x34, 0x56, 0x78, 0x90, 0xab, 0xcd, 0xef}},
		{0x1234567890abcdef, 3, []byte{0xab, 0xcd, 0xef}},
		{0x1234567890abcdef, 1, []byte{0xef}},
		{0x1234567890abcdef, 0, nil},
		{0x1234567890abcdef, -1, nil},
		{0x1234567890abcdef, math.MinInt, nil},
		{5, 9, []byte{0, 0, 0, 0, 0, 0, 0, 5}},
		{5, math.MaxInt, []byte{0, 0, 0, 0, 0, 0, 0, 5}},
		{0, 2, []byte{0, 0}},
		{math.MaxUint64, 8, []byte{255, 255, 255, 255, 255, 255, 255, 255}},
	} {
		if b := num.Bytes(x.v, x.n); !bytes.Equal(b, x.want) {
			t.Error(hex(x.v), x.n, b)
		}
	}
}

// P1.1
func TestBytesAgainstLibrary(t *testing.T) {
	for _, v := range edges() {
		all := binary.BigEndian.AppendUint64(nil, v)
		for n := range 9 {
			if b := num.Bytes(v, n); !bytes.Equal(b, all[8-n:]) {
				t.Error(hex(v), n, b)
			}
		}
	}
}

// P1.1
func TestRead(t *testing.T) {
	nine := []byte{1, 2, 3, 4, 5, 6, 7, 8, 9}
	for _, x := range []struct {
		b    []byte
		n    int
		v    uint64
		rest int
		e    api.Errno
	}{
		{nine, 1, 1, 1, api.OK},
		{nine, 2, 0x0102, 2, api.OK},
		{nine, 7, 0x01020304050607, 7, api.OK},
		{nine, 8, 0x0102030405060708, 8, api.OK},
		{nine[:8], 8, 0x0102030405060708, 8, api.OK},
		{[]byte{0, 0, 0}, 3, 0, 3, api.OK},
		{[]byte{255, 255, 255, 255, 255, 255, 255, 255}, 8, math.MaxUint64, 8, api.OK},
		{nine, 0, 0, 0, api.ErrRange},
		{nine, 9, 0, 0, api.ErrRange},
		{nine, -1, 0, 0, api.ErrRange},
		{nine, math.MinInt, 0, 0, api.ErrRange},
		{nine, math.MaxInt, 0, 0, api.ErrRange},
		{nine[:7], 8, 0, 0, api.ErrShort},
		{nil, 1, 0, 0, api.ErrShort},
		{[]byte{}, 1, 0, 0, api.ErrShort},
		// Too few bytes, but a wrong n, too: that is named first.
		{nil, 0, 0, 0, api.ErrRange},
		{nil, 9, 0, 0, api.ErrRange},
		{nine, 10, 0, 0, api.ErrRange},
	} {
		if v, rest, e := num.Read(x.b, x.n); v != x.v || rest != x.rest || e != x.e {
			t.Error(x.b, x.n, hex(v), rest, e)
		}
	}
}

// P1.1: bytes behind the end of a slice, in its spare room, aren't its own.
func TestReadLeavesSpareRoom(t *testing.T) {
	if v, rest, e := num.Read([]byte{1, 2, 3}[:2], 3); v != 0 || rest != 0 || e != api.ErrShort {
		t.Error(v, rest, e)
	}
	if v, rest, e := num.ReadShort([]byte{0x80, 1}[:1]); v != 0 || rest != 0 || e != api.ErrShort {
		t.Error(v, rest, e)
	}
}

// P1.1
func TestBytesAndBack(t *testing.T) {
	for _, v := range edges() {
		for n := 1; n <= 8; n++ {
			want := v
			if n < 8 {
				want = v % (1 << (8 * n))
			}
			if w, rest, e := num.Read(append(num.Bytes(v, n), 0xee), n); w != want || rest != n || e != api.OK {
				t.Error(hex(v), n, hex(w), rest, e)
			}
		}
	}
}

// P1.2
func TestShort(t *testing.T) {
	for _, x := range []struct {
		v    uint64
		want []byte
	}{
		{0, []byte{0}},
		{1, []byte{1}},
		{127, []byte{0x7f}},
		{128, []byte{0x80, 1}},
		{300, []byte{0xac, 2}},
		{1<<14 - 1, []byte{0xff, 0x7f}},
		{1 << 14, []byte{0x80, 0x80, 1}},
		{1<<63 - 1, []byte{255, 255, 255, 255, 255, 255, 255, 255, 127}},
		{1 << 63, []byte{128, 128, 128, 128, 128, 128, 128, 128, 128, 1}},
		{math.MaxUint64, []byte{255, 255, 255, 255, 255, 255, 255, 255, 255, 1}},
	} {
		if b := num.Short(x.v); !bytes.Equal(b, x.want) {
			t.Error(x.v, b)
		}
	}
	for _, v := range edges() {
		if b := num.Short(v); !bytes.Equal(b, binary.AppendUvarint(nil, v)) {
			t.Error(v, b)
		}
	}
}

// P1.2: all of Short(v) is read, and nothing of what stands behind it; a beginning of it is too short.
func TestShortAndBack(t *testing.T) {
	for _, v := range edges() {
		b := num.Short(v)
		for _, tail := range [][]byte{nil, {0}, {7}, {255, 255}} {
			if w, rest, e := num.ReadShort(append(bytes.Clone(b), tail...)); w != v || rest != len(b) || e != api.OK {
				t.Error(v, tail, w, rest, e)
			}
		}
		for n := range b {
			if w, rest, e := num.ReadShort(b[:n]); w != 0 || rest != 0 || e != api.ErrShort {
				t.Error(v, n, w, rest, e)
			}
		}
	}
}

// rowOf has n bytes c, and the bytes last behind them.
func rowOf(n int, c byte, last ...byte) []byte {
	return append(bytes.Repeat([]byte{c}, n), last...)
}

// P1.2
func TestReadShortRefuses(t *testing.T) {
	for _, x := range []struct {
		b []byte
		e api.Errno
	}{
		{nil, api.ErrShort},
		{[]byte{}, api.ErrShort},
		{[]byte{0x80}, api.ErrShort},
		{[]byte{0x81, 0xff}, api.ErrShort},
		{rowOf(9, 0x80), api.ErrShort},
		{rowOf(9, 0xff), api.ErrShort},
		{rowOf(9, 0xff, 2), api.ErrRange},
		{rowOf(9, 0x80, 2), api.ErrRange},
		{rowOf(9, 0xff, 0x7f), api.ErrRange},
		{rowOf(9, 0xff, 0x80), api.ErrRange},
		{rowOf(9, 0xff, 0x81), api.ErrRange},
		{rowOf(9, 0xff, 0xff), api.ErrRange},
		{rowOf(9, 0x80, 0x80, 0), api.ErrRange},
		{rowOf(20, 0xff), api.ErrRange},
		{[]byte{0x80, 0}, api.ErrForm},
		{[]byte{0xff, 0}, api.ErrForm},
		{[]byte{0x80, 0, 1}, api.ErrForm},
		{[]byte{0x81, 0x80, 0}, api.ErrForm},
		{rowOf(8, 0xff, 0), api.ErrForm},
		{rowOf(9, 0xff, 0), api.ErrForm},
		{rowOf(9, 0x80, 0), api.ErrForm},
	} {
		if v, rest, e := num.ReadShort(x.b); v != 0 || rest != 0 || e != x.e {
			t.Error(x.b, v, rest, e)
		}
	}
}

// P1.2: the least and the greatest first byte that stand alone, and the two tenth bytes that may be.
func TestReadShortEdges(t *testing.T) {
	for _, x := range []struct {
		b    []byte
		v    uint64
		rest int
	}{
		{[]byte{0}, 0, 1},
		{[]byte{0, 0x80}, 0, 1},
		{[]byte{0x7f}, 127, 1},
		{[]byte{0xac, 2, 9}, 300, 2},
		{rowOf(8, 0x80, 1), 1 << 56, 9},
		{rowOf(8, 0xff, 0x7f), 1<<63 - 1, 9},
		{rowOf(9, 0x80, 1), 1 << 63, 10},
		{rowOf(9, 0xff, 1), math.MaxUint64, 10},
		{rowOf(9, 0xff, 1, 0xff), math.MaxUint64, 10},
	} {
		if v, rest, e := num.ReadShort(x.b); v != x.v || rest != x.rest || e != api.OK {
			t.Error(x.b, v, rest, e)
		}
	}
}

// P1.2: each number has one way to be written: what is read is what Short wrote.
func TestReadShortOneWay(t *testing.T) {
	r := rand.New(rand.NewSource(2))
	few := []byte{0, 1, 2, 0x7f, 0x80, 0x81, 0xff}
	for range 50000 {
		b := make([]byte, r.Intn(12))
		for i := range b {
			b[i] = few[r.Intn(len(few))]
			if r.Intn(3) > 0 {
				b[i] |= 0x80
			}
		}
		v, rest, e := num.ReadShort(b)
		if e == api.OK && !bytes.Equal(num.Short(v), b[:rest]) {
			t.Fatal(b, v, rest)
		}
		if e != api.OK && (v != 0 || rest != 0) {
			t.Fatal(b, v, rest, e)
		}
	}
}

// P1.3
func TestZig(t *testing.T) {
	for _, x := range []struct {
		i int64
		v uint64
	}{
		{0, 0}, {-1, 1}, {1, 2}, {-2, 3}, {2, 4}, {150, 300}, {-150, 299},
		{math.MaxInt64, math.MaxUint64 - 1}, {math.MinInt64, math.MaxUint64},
		{math.MaxInt64 - 1, math.MaxUint64 - 3}, {math.MinInt64 + 1, math.MaxUint64 - 2},
	} {
		if v := num.Zig(x.i); v != x.v {
			t.Error("Zig", x.i, v)
		}
		if i := num.Zag(x.v); i != x.i {
			t.Error("Zag", x.v, i)
		}
	}
	for _, v := range edges() {
		if w := num.Zig(num.Zag(v)); w != v {
			t.Error("there and back", v, w)
		}
		if i := num.Zag(num.Zig(int64(v))); i != int64(v) {
			t.Error("back and there", int64(v), i)
		}
	}
}

// P1.3
func TestFits(t *testing.T) {
	for _, x := range []struct {
		v    uint64
		bits int
		want bool
	}{
		{0, 0, true}, {1, 0, false}, {math.MaxUint64, 0, false},
		{0, -1, true}, {1, -1, false}, {0, math.MinInt, true}, {1, math.MinInt, false}, {1, -64, false}, {1, -63, false},
		{1, 1, true}, {2, 1, false}, {15, 4, true}, {16, 4, false}, {1 << 32, 4, false},
		{1<<63 - 1, 63, true}, {1 << 63, 63, false}, {math.MaxUint64, 63, false},
		{1 << 63, 64, true}, {math.MaxUint64, 64, true}, {math.MaxUint64, 65, true}, {math.MaxUint64, 128, true}, {math.MaxUint64, math.MaxInt, true},
	} {
		if num.Fits(x.v, x.bits) != x.want {
			t.Error(x.v, x.bits)
		}
	}
}

// P1.3
func TestLow(t *testing.T) {
	for _, x := range []struct {
		v    uint64
		bits int
		want uint64
	}{
		{0xff, 4, 15}, {0xf0, 4, 0}, {0xff, 1, 1}, {0xff, 0, 0}, {0xff, 8, 0xff}, {0xff, 9, 0xff},
		{math.MaxUint64, 0, 0}, {math.MaxUint64, -1, 0}, {math.MaxUint64, math.MinInt, 0}, {math.MaxUint64, -63, 0},
		{math.MaxUint64, 63, 1<<63 - 1}, {1 << 63, 63, 0}, {1 << 63, 64, 1 << 63},
		{math.MaxUint64, 64, math.MaxUint64}, {math.MaxUint64, 65, math.MaxUint64}, {math.MaxUint64, 128, math.MaxUint64}, {math.MaxUint64, math.MaxInt, math.MaxUint64},
	} {
		if v := num.Low(x.v, x.bits); v != x.want {
			t.Error(hex(x.v), x.bits, hex(v))
		}
	}
}

// P1.3: of each count of bits, bit by bit.
func TestLowBitByBit(t *testing.T) {
	for _, v := range edges() {
		for bits := -2; bits <= 66; bits++ {
			var low uint64
			for b := range min(max(bits, 0), 64) {
				low += v >> b & 1 << b
			}
			if num.Low(v, bits) != low || num.Fits(v, bits) != (low == v) {
				t.Error(hex(v), bits, hex(num.Low(v, bits)))
			}
		}
	}
}

// The rule of memory: what is handed in stays as it is, what is told is new, its spare room too.
func TestMemory(t *testing.T) {
	in := []byte{0xac, 2, 7, 8, 9, 10, 11, 12}
	was := bytes.Clone(in)
	num.Read(in, 8)
	num.ReadShort(in)
	if !bytes.Equal(in, was) {
		t.Error("changed", in)
	}
	for _, f := range []func() []byte{
		func() []byte { return num.Bytes(0x0102, 2) },
		func() []byte { return num.Short(300) },
		func() []byte { return num.Short(1) },
		func() []byte { return num.Bytes(1, 0) },
	} {
		a, b := f(), f()
		want := bytes.Clone(b)
		for i := range a[:cap(a)] {
			a[:cap(a)][i] = 0xee
		}
		if !bytes.Equal(b, want) || !bytes.Equal(f(), want) {
			t.Error("shared", a, b)
		}
	}
}

// P1: no call panics, whatever it is given.
func TestNoPanic(t *testing.T) {
	texts := [][]byte{nil, {}, {0}, {0x80}, rowOf(8, 0xff), rowOf(12, 0xff), rowOf(100, 0)}
	numbers := []int{math.MinInt, math.MinInt + 1, -65, -64, -63, -8, -1, 0, 1, 7, 8, 9, 63, 64, 65, 1 << 31, math.MaxInt}
	for _, n := range numbers {
		for _, b := range texts {
			num.Read(b, n)
			num.ReadShort(b)
		}
		for _, v := range []uint64{0, 1, 1 << 63, math.MaxUint64} {
			num.Bytes(v, n)
			num.Low(v, n)
			num.Fits(v, n)
			num.Short(v)
			num.Zag(v)
			num.Zig(int64(v))
		}
	}
}

func FuzzReadShort(f *testing.F) {
	f.Add([]byte{0xac, 2})
	f.Add(rowOf(9, 0xff, 1))
	f.Fuzz(func(t *testing.T, b []byte) {
		v, rest, e := num.ReadShort(b)
		if e == api.OK && !bytes.Equal(num.Short(v), b[:rest]) {
			t.Error(v, rest)
		}
	})
}
