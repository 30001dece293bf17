package sum_test

import (
	"bytes"
	"encoding/binary"
	"hash/crc32"
	"math/rand"
	"strconv"
	"testing"

	"moothill/api"
	"moothill/sum"
)

func hex(v uint32) string { return strconv.FormatUint(uint64(v), 16) }

// noise has n bytes from r.
func noise(r *rand.Rand, n int) []byte {
	b := make([]byte, n)
	r.Read(b)
	return b
}

// byWords is the sum as the chapter's words tell it, bit by bit.
func byWords(b []byte) uint32 {
	word := uint32(0xffffffff)
	for _, c := range b {
		word ^= uint32(c)
		for range 8 {
			out := word & 1
			word >>= 1
			if out == 1 {
				word ^= 0xedb88320
			}
		}
	}
	return ^word
}

// P2.1
func TestOf(t *testing.T) {
	for _, x := range []struct {
		b    []byte
		want uint32
	}{
		{nil, 0},
		{[]byte{}, 0},
		{[]byte("a"), 0xe8b7be43},
		{[]byte("abc"), 0x352441c2},
		{[]byte("123456789"), 0xcbf43926},
		{[]byte{0}, 0xd202ef8d},
		{[]byte{0xff}, 0xff000000},
		{[]byte{0xff, 0xff, 0xff, 0xff}, 0xffffffff},
		{make([]byte, 4), 0x2144df1c},
		{make([]byte, 32), 0x190a55ad},
		{bytes.Repeat([]byte{0xff}, 32), 0xff6cab0b},
	} {
		if s := sum.Of(x.b); s != x.want {
			t.Error(x.b, hex(s), hex(x.want))
		}
	}
}

// P2.1: against the chapter's words and the library, of each single byte and of texts of many lengths.
func TestOfAgainstLibrary(t *testing.T) {
	r := rand.New(rand.NewSource(1))
	var texts [][]byte
	for c := range 256 {
		texts = append(texts, []byte{byte(c)})
	}
	for n := range 600 {
		texts = append(texts, noise(r, n))
	}
	texts = append(texts, noise(r, 1<<16))
	for _, b := range texts {
		if s := sum.Of(b); s != crc32.ChecksumIEEE(b) || s != byWords(b) {
			t.Fatal(b, hex(s), hex(byWords(b)))
		}
	}
}

// P2.1: parts come in any number, none, too; where one ends and the next begins doesn't matter.
func TestOfParts(t *testing.T) {
	if s := sum.Of(); s != 0 {
		t.Error("none", hex(s))
	}
	if s := sum.Of(nil, nil, []byte{}); s != 0 {
		t.Error("empty ones", hex(s))
	}
	text := []byte("123456789")
	for i := range len(text) + 1 {
		for j := i; j <= len(text); j++ {
			if s := sum.Of(text[:i], text[i:j], nil, text[j:]); s != 0xcbf43926 {
				t.Error(i, j, hex(s))
			}
		}
	}
	var parts [][]byte
	for i := range text {
		parts = append(parts, text[i:i+1])
	}
	if s := sum.Of(parts...); s != 0xcbf43926 {
		t.Error("byte by byte", hex(s))
	}
	if sum.Of([]byte("ab"), []byte("c")) == sum.Of([]byte("c"), []byte("ab")) {
		t.Error("the order of the parts doesn't matter")
	}
}

// P2.1: just the parts' own bytes count, not what lies in their spare room.
func TestOfLeavesSpareRoom(t *testing.T) {
	long := []byte("123456789 and more")
	if s := sum.Of(long[:4], long[4:9]); s != 0xcbf43926 {
		t.Error(hex(s))
	}
}

// P2.2
func TestSeal(t *testing.T) {
	for _, x := range []struct{ b, want []byte }{
		{nil, []byte{0, 0, 0, 0}},
		{[]byte{}, []byte{0, 0, 0, 0}},
		{[]byte{0}, []byte{0, 0x8d, 0xef, 0x02, 0xd2}},
		{[]byte{0xff}, []byte{0xff, 0, 0, 0, 0xff}},
		{[]byte("123456789"), append([]byte("123456789"), 0x26, 0x39, 0xf4, 0xcb)},
	} {
		if b := sum.Seal(x.b); !bytes.Equal(b, x.want) {
			t.Error(x.b, b)
		}
	}
	r := rand.New(rand.NewSource(2))
	for n := range 600 {
		b := noise(r, n)
		want := binary.LittleEndian.AppendUint32(bytes.Clone(b), crc32.ChecksumIEEE(b))
		if s := sum.Seal(b); !bytes.Equal(s, want) {
			t.Fatal(b, s)
		}
	}
}

// P2.2: what is sealed is opened, what is sealed twice, too; whatever is opened was sealed.
func TestSealAndOpen(t *testing.T) {
	r := rand.New(rand.NewSource(3))
	for n := range 600 {
		b := noise(r, n)
		once := sum.Seal(b)
		if o, e := sum.Open(once); !bytes.Equal(o, b) || e != api.OK {
			t.Fatal(b, o, e)
		}
		if o, e := sum.Open(sum.Seal(once)); !bytes.Equal(o, once) || e != api.OK {
			t.Fatal(b, o, e)
		}
	}
}

// P2.2
func TestOpenRefuses(t *testing.T) {
	sealed := sum.Seal([]byte("123456789"))
	turned := []byte("123456789\xcb\xf4\x39\x26")
	for _, x := range []struct {
		b []byte
		e api.Errno
	}{
		{nil, api.ErrShort},
		{[]byte{}, api.ErrShort},
		{[]byte{0}, api.ErrShort},
		{[]byte{0, 0, 0}, api.ErrShort},
		{[]byte{1, 2, 3}, api.ErrShort},
		{sealed[:3], api.ErrShort},
		// Just the sum, of nothing: but another one's.
		{sealed[9:], api.ErrSum},
		{[]byte{0, 0, 0, 1}, api.ErrSum},
		{[]byte{0, 0, 0, 0, 0}, api.ErrSum},
		{[]byte{0xff, 0xff, 0xff, 0xff}, api.ErrSum},
		// The greatest byte first.
		{turned, api.ErrSum},
		{sealed[1:], api.ErrSum},
		{sealed[:12], api.ErrSum},
		{append(bytes.Clone(sealed), 0), api.ErrSum},
		{append([]byte{0}, sealed...), api.ErrSum},
		{[]byte("123456789"), api.ErrSum},
	} {
		if b, e := sum.Open(x.b); len(b) != 0 || e != x.e {
			t.Error(x.b, b, e)
		}
	}
	if b, e := sum.Open(make([]byte, 4)); len(b) != 0 || e != api.OK {
		t.Error("nothing, sealed", b, e)
	}
}

// P2.2: bytes in the spare room aren't part of the text.
func TestOpenLeavesSpareRoom(t *testing.T) {
	sealed := sum.Seal([]byte("ab"))
	if b, e := sum.Open(sealed[:3]); len(b) != 0 || e != api.ErrShort {
		t.Error(b, e)
	}
	if b, e := sum.Open(sealed[:5]); len(b) != 0 || e != api.ErrSum {
		t.Error(b, e)
	}
}

// flip turns bit i of b, bits being in the order in which the sum takes them.
func flip(b []byte, i int) { b[i/8] ^= 1 << (i % 8) }

// P2.2: one turned bit, wherever it is, in the sum, too.
func TestOpenOneBitTurned(t *testing.T) {
	r := rand.New(rand.NewSource(4))
	for _, n := range []int{0, 1, 2, 9, 64, 508} {
		sealed := sum.Seal(noise(r, n))
		for i := range 8 * len(sealed) {
			flip(sealed, i)
			if b, e := sum.Open(sealed); len(b) != 0 || e != api.ErrSum {
				t.Fatal(n, i, b, e)
			}
			flip(sealed, i)
		}
	}
}

// P2.2: some bits among 32 in a row, wherever these are, over the border of the sum, too.
func TestOpenRowTurned(t *testing.T) {
	r := rand.New(rand.NewSource(5))
	rows := []uint32{0xffffffff, 0x80000001, 0x80000000, 3, 0xedb88320, 0x04c11db7, 0xaaaaaaaa, 0xffff0000}
	for range 100 {
		rows = append(rows, r.Uint32()|1)
	}
	for _, n := range []int{0, 1, 9, 40} {
		sealed := sum.Seal(noise(r, n))
		for first := range 8*len(sealed) - 31 {
			for _, row := range rows {
				bad := bytes.Clone(sealed)
				for i := range 32 {
					if row>>i&1 == 1 {
						flip(bad, first+i)
					}
				}
				if b, e := sum.Open(bad); len(b) != 0 || e != api.ErrSum {
					t.Fatal(n, first, hex(row), b, e)
				}
			}
		}
	}
}

// roomy has the bytes of s, and spare room full of 0xee.
func roomy(s string) []byte {
	b := append([]byte(s), bytes.Repeat([]byte{0xee}, 16)...)
	return b[:len(s)]
}

// The rule of memory: what is handed in stays as it is, its spare room too.
func TestArgumentsStay(t *testing.T) {
	in := roomy("123456789")
	sealed := roomy(string(sum.Seal(in)))
	wasIn, wasSealed := bytes.Clone(in[:cap(in)]), bytes.Clone(sealed[:cap(sealed)])
	parts := [][]byte{in, nil, sealed}
	sum.Of(parts...)
	sum.Seal(in)
	sum.Open(sealed)
	sum.Open(in)
	if !bytes.Equal(in[:cap(in)], wasIn) || !bytes.Equal(sealed[:cap(sealed)], wasSealed) {
		t.Error("changed", in, sealed)
	}
	if len(parts) != 3 || len(parts[0]) != 9 || parts[1] != nil || len(parts[2]) != 13 {
		t.Error("changed", parts)
	}
}

// spoil overwrites b, and its spare room.
func spoil(b []byte) {
	for i := range b[:cap(b)] {
		b[:cap(b)][i] = 0x55
	}
}

// The rule of memory: what is told is new, its spare room too.
func TestAnswersAreNew(t *testing.T) {
	for _, text := range []string{"", "a", "123456789"} {
		in := roomy(text)
		sealed := roomy(string(sum.Seal(in)))
		wasIn, wasSealed := bytes.Clone(in[:cap(in)]), bytes.Clone(sealed[:cap(sealed)])
		for _, f := range []func() []byte{
			func() []byte { return sum.Seal(in) },
			func() []byte { b, _ := sum.Open(sealed); return b },
		} {
			a, b := f(), f()
			want := bytes.Clone(b)
			spoil(a)
			if !bytes.Equal(b, want) || !bytes.Equal(f(), want) {
				t.Error("two answers share", a, b)
			}
		}
		if !bytes.Equal(in[:cap(in)], wasIn) || !bytes.Equal(sealed[:cap(sealed)], wasSealed) {
			t.Error("an answer and an argument share", in, sealed)
		}
	}
}

// The rule of memory: an argument that is changed later changes no answer.
func TestArgumentsAreNotKept(t *testing.T) {
	in := roomy("123456789")
	sealed := sum.Seal(in)
	opened, _ := sum.Open(sealed)
	want := bytes.Clone(sealed)
	spoil(in)
	if !bytes.Equal(sealed, want) {
		t.Error(sealed)
	}
	spoil(sealed)
	if string(opened) != "123456789" {
		t.Error(opened)
	}
}

// P1: no call panics, whatever it is given, and what a call answers hangs on its arguments alone.
func TestNoPanic(t *testing.T) {
	r := rand.New(rand.NewSource(6))
	texts := [][]byte{nil, {}, {0}, {0, 0, 0}, make([]byte, 4), make([]byte, 1000)}
	for n := range 40 {
		texts = append(texts, noise(r, n))
	}
	for _, b := range texts {
		if sum.Of(b, b) != sum.Of(b, b) || !bytes.Equal(sum.Seal(b), sum.Seal(b)) {
			t.Error(b)
		}
		o, e := sum.Open(b)
		o2, e2 := sum.Open(b)
		if !bytes.Equal(o, o2) || e != e2 {
			t.Error(b, o, e, o2, e2)
		}
	}
	sum.Of(texts...)
}

func FuzzOpen(f *testing.F) {
	f.Add([]byte{0, 0, 0, 0})
	f.Add(sum.Seal([]byte("123456789")))
	f.Fuzz(func(t *testing.T, b []byte) {
		o, e := sum.Open(b)
		if e == api.OK && !bytes.Equal(sum.Seal(o), b) {
			t.Error(o)
		}
		if e != api.OK && len(o) != 0 {
			t.Error(o, e)
		}
	})
}
