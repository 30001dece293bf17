package log_test

import (
	"bytes"
	"encoding/binary"
	"hash/crc32"
	"math"
	"math/rand"
	"slices"
	"testing"
	"time"

	"moothill/api"
	"moothill/log"
)

// most is how many bytes a record may have.
const most = 1 << 14

// lengths are of records, small ones, and those at which a frame's number, or whether there is a frame, becomes another.
func lengths() []int {
	return []int{0, 1, 2, 3, 4, 5, 7, 100, 122, 123, 124, 125, 126, 127, 128, 129, 255, 256, 1 << 10, 1<<14 - 6, 1<<14 - 5, 1<<14 - 4, 1<<14 - 3, 1<<14 - 1, 1 << 14}
}

// tooLong are lengths that no record has.
func tooLong() []int {
	return []int{most + 1, most + 2, most + 3, most + 4, most + 5, 1 << 15, 1 << 16, 1<<16 + 5, 1 << 20}
}

// noise has n bytes from r.
func noise(r *rand.Rand, n int) []byte {
	b := make([]byte, n)
	r.Read(b)
	return b
}

// sealed is a sealed text, as layer 2's chapter tells it, made by the library.
func sealed(b []byte) []byte {
	return binary.LittleEndian.AppendUint32(bytes.Clone(b), crc32.ChecksumIEEE(b))
}

// framed is a record's frame, as the chapter tells it, made by the library.
func framed(b []byte) []byte {
	s := sealed(b)
	return append(binary.AppendUvarint(nil, uint64(len(s))), s...)
}

// joined are some records' frames.
func joined(records ...[]byte) []byte {
	var all []byte
	for _, r := range records {
		all = append(all, framed(r)...)
	}
	return all
}

// texts are records of the bytes of some texts.
func texts(l ...string) [][]byte {
	var records [][]byte
	for _, s := range l {
		records = append(records, []byte(s))
	}
	return records
}

// same tells whether two lists have the same records.
func same(a, b [][]byte) bool {
	return slices.EqualFunc(a, b, bytes.Equal)
}

// scans tells whether just these records are scanned, and that many bytes.
func scans(t testing.TB, b []byte, good int, records ...[]byte) {
	t.Helper()
	if l, n := log.Scan(b); n != good || !same(l, records) {
		t.Errorf("%d records and %d bytes of %d, not %d and %d", len(l), n, len(b), len(records), good)
	}
}

// P14.1 and P14.2: the chapter's example.
func TestExample(t *testing.T) {
	want := []byte{4, 0, 0, 0, 0}
	if b, e := log.Frame(nil); !bytes.Equal(b, want) || e != api.OK {
		t.Error(b, e)
	}
	if n := log.Size(nil); n != 5 {
		t.Error(n)
	}
	scans(t, want, 5, nil)
}

// P14.1: frames written out.
func TestFrame(t *testing.T) {
	for _, x := range []struct {
		b    []byte
		want string
	}{
		{nil, "\x04\x00\x00\x00\x00"},
		{[]byte{}, "\x04\x00\x00\x00\x00"},
		{[]byte{0}, "\x05\x00\x8d\xef\x02\xd2"},
		{[]byte{0xff}, "\x05\xff\x00\x00\x00\xff"},
		{[]byte("abc"), "\x07abc\xc2\x41\x24\x35"},
		{[]byte("123456789"), "\x0d123456789\x26\x39\xf4\xcb"},
	} {
		if b, e := log.Frame(x.b); string(b) != x.want || e != api.OK {
			t.Errorf("%q: %q, %d", x.b, b, e)
		}
		if n := log.Size(x.b); n != len(x.want) {
			t.Errorf("%q: %d", x.b, n)
		}
		if b, e := log.Join(x.b); string(b) != x.want || e != api.OK {
			t.Errorf("%q: %q, %d", x.b, b, e)
		}
	}
}

// P14.1: how many bytes frames have, where their numbers become longer.
func TestSizeAtEdges(t *testing.T) {
	for n, want := range map[int]int{
		0: 5, 1: 6, 122: 127, 123: 128,
		// From 128 on the number has two bytes, from 2^14 on three: the sum counts, too.
		124: 130, 125: 131, 127: 133, 128: 134,
		1<<14 - 5: 1<<14 + 1, 1<<14 - 4: 1<<14 + 3, 1<<14 - 1: 1<<14 + 6, 1 << 14: 1<<14 + 7,
	} {
		b := make([]byte, n)
		if got := log.Size(b); got != want {
			t.Error(n, got, want)
		}
		if f, e := log.Frame(b); len(f) != want || e != api.OK {
			t.Error(n, len(f), want, e)
		}
	}
}

// P14.1: against the library, at all small lengths and at the edges.
func TestFrameAgainstLibrary(t *testing.T) {
	r := rand.New(rand.NewSource(1))
	all := lengths()
	for n := range 300 {
		all = append(all, n)
	}
	for _, n := range all {
		b := noise(r, n)
		want := framed(b)
		if f, e := log.Frame(b); !bytes.Equal(f, want) || e != api.OK {
			t.Fatal(n, len(f), len(want), e)
		}
		if f, e := log.Join(b); !bytes.Equal(f, want) || e != api.OK {
			t.Fatal(n, len(f), len(want), e)
		}
		if got := log.Size(b); got != len(want) {
			t.Fatal(n, got, len(want))
		}
		scans(t, want, len(want), b)
	}
}

// P14.1: what is too long has no frame.
func TestTooLong(t *testing.T) {
	for _, n := range tooLong() {
		b := make([]byte, n)
		if f, e := log.Frame(b); len(f) != 0 || e != api.ErrSize {
			t.Error(n, len(f), e)
		}
		if got := log.Size(b); got != 0 {
			t.Error(n, got)
		}
		if f, e := log.Join(b); len(f) != 0 || e != api.ErrSize {
			t.Error(n, len(f), e)
		}
	}
}

// P14.1: spare room isn't part of a record: neither what lies there, nor how much.
func TestSpareRoomDoesNotCount(t *testing.T) {
	long := make([]byte, most+10)
	copy(long, "abcdef")
	want := framed([]byte("abc"))
	if f, e := log.Frame(long[:3]); !bytes.Equal(f, want) || e != api.OK {
		t.Error(f, e)
	}
	if n := log.Size(long[:3]); n != len(want) {
		t.Error(n)
	}
	if f, e := log.Join(long[:3]); !bytes.Equal(f, want) || e != api.OK {
		t.Error(f, e)
	}
	if f, e := log.Frame(long[:most]); len(f) != most+7 || e != api.OK {
		t.Error(len(f), e)
	}
}

// P14.1: frames one behind the other, of none, too.
func TestJoin(t *testing.T) {
	for _, l := range [][][]byte{
		nil,
		{},
		{nil},
		{nil, nil, {}},
		texts("abc"),
		texts("abc", "", "d"),
		texts("d", "", "abc"),
		texts("abc", "abc", "abc"),
		{make([]byte, most), []byte("a"), make([]byte, most), nil},
	} {
		want := joined(l...)
		b, e := log.Join(l...)
		if !bytes.Equal(b, want) || e != api.OK {
			t.Error(len(l), len(b), len(want), e)
		}
		scans(t, b, len(want), l...)
	}
	if b, e := log.Join(); len(b) != 0 || e != api.OK {
		t.Error(b, e)
	}
}

// P14.1: one that has no frame, wherever it stands, is enough.
func TestJoinRefuses(t *testing.T) {
	for at := range 5 {
		for _, n := range []int{most + 1, 1 << 20} {
			l := texts("a", "bc", "", "def", "g")
			l[at] = make([]byte, n)
			if b, e := log.Join(l...); len(b) != 0 || e != api.ErrSize {
				t.Error(at, n, len(b), e)
			}
			l[at] = make([]byte, most)
			if b, e := log.Join(l...); !bytes.Equal(b, joined(l...)) || e != api.OK {
				t.Error(at, n, len(b), e)
			}
		}
	}
}

// P14.1: a log has no greatest length of its own.
func TestJoinMany(t *testing.T) {
	b := bytes.Repeat([]byte{7}, most)
	l := slices.Repeat([][]byte{b}, 64)
	all, e := log.Join(l...)
	if len(all) != 64*(most+7) || e != api.OK {
		t.Fatal(len(all), e)
	}
	scans(t, all, len(all), l...)
}

// P14.2: of nothing nothing is scanned.
func TestScanNothing(t *testing.T) {
	scans(t, nil, 0)
	scans(t, []byte{}, 0)
}

// P14.2: wherever a log is torn: the records of the whole frames, and nothing of the torn one.
func TestScanTorn(t *testing.T) {
	r := rand.New(rand.NewSource(2))
	l := [][]byte{[]byte("abc"), nil, noise(r, 200), {0}, nil, nil, noise(r, 123), noise(r, 124)}
	var ends []int
	for i := range l {
		ends = append(ends, len(joined(l[:i+1]...)))
	}
	b := joined(l...)
	for n := range len(b) + 1 {
		whole, good := 0, 0
		for whole < len(l) && ends[whole] <= n {
			good = ends[whole]
			whole++
		}
		scans(t, b[:n], good, l[:whole]...)
		// The bytes behind the cut are there, but not handed in.
		scans(t, b[:n:n], good, l[:whole]...)
	}
}

// P14.2: a great frame that is torn, just ahead of its end, too.
func TestScanTornGreat(t *testing.T) {
	b := joined([]byte("abc"), make([]byte, most))
	at := len(joined([]byte("abc")))
	for _, n := range []int{at, at + 1, at + 2, at + 3, at + 4, at + 1000, len(b) - 5, len(b) - 4, len(b) - 1} {
		scans(t, b[:n], at, []byte("abc"))
	}
	scans(t, b, len(b), []byte("abc"), make([]byte, most))
}

// P14.2: what stands behind the last whole frame ends the scan, though whole frames stand behind that.
func TestScanStops(t *testing.T) {
	l := texts("abc", "", "d")
	front, behind := joined(l...), joined(texts("ef", "")...)
	for _, b := range []string{
		// Numbers of fewer bytes than a sum has.
		"\x00", "\x01\x00", "\x02\x00\x00", "\x03\x00\x00\x00",
		// A sum that isn't theirs.
		"\x04\x00\x00\x00\x01", "\x05\x00\x00\x00\x00\x00", "\x07abc\xc2\x41\x24\x36", "\x07abd\xc2\x41\x24\x35", "\x07abc\x35\x24\x41\xc2",
		// Numbers that aren't short ones: a last byte 0, and too many bytes.
		"\x84\x00\x00\x00\x00\x00", "\x84\x80\x00\x00\x00\x00\x00",
		"\x80\x80\x80\x80\x80\x80\x80\x80\x80\x02", "\x84\x80\x80\x80\x80\x80\x80\x80\x80\x80\x00",
		// Numbers that are too great.
		"\x85\x80\x01", "\xff\xff\xff\xff\x07", "\xff\xff\xff\xff\xff\xff\xff\xff\xff\x01",
		// Another order of a number's bytes.
		"\x00\x04\x00\x00\x00\x00",
	} {
		scans(t, []byte(b), 0)
		scans(t, slices.Concat(front, []byte(b)), len(front), l...)
		scans(t, slices.Concat(front, []byte(b), behind), len(front), l...)
	}
}

// P14.2: numbers that say a text is there which isn't, or one that no record has.
func TestScanNumbers(t *testing.T) {
	front := framed([]byte("abc"))
	for _, v := range []uint64{
		most + 5, most + 6, 1 << 15, 1 << 16, 1<<31 - 1, 1 << 31, 1<<32 + 4, 1<<32 + 5,
		math.MaxInt64 - 3, math.MaxInt64 - 2, math.MaxInt64 - 1, math.MaxInt64, 1 << 63, 1<<63 + 4, math.MaxUint64 - 9, math.MaxUint64 - 1, math.MaxUint64,
	} {
		number := binary.AppendUvarint(nil, v)
		for _, rest := range [][]byte{nil, {0, 0, 0, 0}, make([]byte, 2*most)} {
			scans(t, slices.Concat(number, rest), 0)
			scans(t, slices.Concat(front, number, rest), len(front), []byte("abc"))
		}
	}
}

// P14.2: a sealed text of more than 2^14 + 4 bytes is no frame's, though it is there.
func TestScanTooLong(t *testing.T) {
	front := framed([]byte("abc"))
	for _, n := range tooLong() {
		b := framed(make([]byte, n))
		scans(t, b, 0)
		scans(t, slices.Concat(front, b), len(front), []byte("abc"))
		scans(t, slices.Concat(front, b, front), len(front), []byte("abc"))
	}
	scans(t, framed(make([]byte, most)), most+7, make([]byte, most))
}

// P14.2: a bit that is turned ends the scan at its frame, wherever it stands.
func TestScanTurned(t *testing.T) {
	l := texts("abc", "123456789", "", "x")
	b := joined(l...)
	for i := range b {
		for bit := range 8 {
			c := bytes.Clone(b)
			c[i] ^= 1 << bit
			whole, good := 0, 0
			for i >= good+log.Size(l[whole]) {
				good += log.Size(l[whole])
				whole++
			}
			scans(t, c, good, l[:whole]...)
		}
	}
}

// P14.2: a record may be a log itself: it is told as it is, but where bytes are scanned from inside it.
func TestScanLogInLog(t *testing.T) {
	inner := joined(texts("abc", "", "d")...)
	b := joined(inner, nil, inner)
	scans(t, b, len(b), inner, nil, inner)
	scans(t, b[1:], len(inner), texts("abc", "", "d")...)
}

// take is the chapter's words of one frame: its number is the one that 'as a short number' writes so.
func take(b []byte) (record []byte, size int, ok bool) {
	for n := range most + 5 {
		number := binary.AppendUvarint(nil, uint64(n))
		if !bytes.HasPrefix(b, number) {
			continue
		}
		rest := b[len(number):]
		if len(rest) < n || n < 4 || !bytes.Equal(rest[:n], sealed(rest[:n-4])) {
			return nil, 0, false
		}
		return rest[:n-4], len(number) + n, true
	}
	return nil, 0, false
}

// model is the chapter's words of a scan.
func model(b []byte) (records [][]byte, good int) {
	for {
		r, n, ok := take(b[good:])
		if !ok {
			return records, good
		}
		records, good = append(records, r), good+n
	}
}

// spoil changes a log by chance: cuts it, turns bits, puts in or takes out bytes, or leaves it.
func spoil(r *rand.Rand, b []byte) []byte {
	b = bytes.Clone(b)
	if len(b) == 0 {
		return noise(r, r.Intn(8))
	}
	at := r.Intn(len(b))
	switch r.Intn(6) {
	case 0:
		return b[:at]
	case 1:
		b[at] ^= 1 << r.Intn(8)
	case 2:
		return slices.Insert(b, at, noise(r, 1+r.Intn(4))...)
	case 3:
		return slices.Delete(b, at, min(at+1+r.Intn(4), len(b)))
	case 4:
		return append(b, noise(r, r.Intn(8))...)
	}
	return b
}

// P14.1 and P14.2: logs by chance, spoilt and not, against the chapter's words.
func TestAgainstModel(t *testing.T) {
	r := rand.New(rand.NewSource(3))
	for range 2000 {
		var l [][]byte
		for range r.Intn(6) {
			l = append(l, noise(r, r.Intn(140)))
		}
		b, e := log.Join(l...)
		if !bytes.Equal(b, joined(l...)) || e != api.OK {
			t.Fatal(len(b), e)
		}
		scans(t, b, len(b), l...)
		b = spoil(r, b)
		want, good := model(b)
		scans(t, b, good, want...)
	}
}

// P14.2: bytes by chance, of few kinds, so that short frames come up.
func TestScanAnything(t *testing.T) {
	r := rand.New(rand.NewSource(4))
	kinds := []byte{0, 0, 0, 0, 4, 4, 5, 0x84, 0x80, 0xff}
	found := 0
	for range 5000 {
		b := make([]byte, r.Intn(24))
		for i := range b {
			b[i] = kinds[r.Intn(len(kinds))]
		}
		want, good := model(b)
		scans(t, b, good, want...)
		found += len(want)
	}
	if found == 0 {
		t.Error("no frame came up")
	}
}

// P14.2: what is scanned is a log: joined anew it is the bytes that were scanned, and scanned anew no more of them.
func TestScanAndJoin(t *testing.T) {
	r := rand.New(rand.NewSource(5))
	for range 500 {
		b := spoil(r, joined(noise(r, r.Intn(140)), noise(r, r.Intn(9)), nil, noise(r, r.Intn(140))))
		l, good := log.Scan(b)
		if again, e := log.Join(l...); !bytes.Equal(again, b[:good]) || e != api.OK {
			t.Fatal(len(again), good, e)
		}
		scans(t, b[:good], good, l...)
	}
}

// roomy has the bytes b and spare room behind them, all of it 0xaa.
func roomy(b []byte) (all []byte, handed []byte) {
	all = append(bytes.Clone(b), bytes.Repeat([]byte{0xaa}, 64)...)
	return all, all[:len(b)]
}

// fill writes over all of a list's memory, its spare room too.
func fill(b []byte) {
	b = b[:cap(b)]
	for i := range b {
		b[i] = 0x55
	}
}

// P14.1: what is handed in is neither changed nor kept, what is told is new memory.
func TestFrameMemory(t *testing.T) {
	text := []byte("123456789")
	want := framed(text)
	for name, call := range map[string]func(b []byte) ([]byte, api.Errno){
		"Frame": log.Frame,
		"Join":  func(b []byte) ([]byte, api.Errno) { return log.Join(b) },
		"Size":  func(b []byte) ([]byte, api.Errno) { log.Size(b); return log.Frame(b) },
	} {
		all, b := roomy(text)
		before := bytes.Clone(all)
		first, _ := call(b)
		second, _ := call(b)
		if !bytes.Equal(all, before) {
			t.Error(name, "an argument was changed")
		}
		fill(first)
		if !bytes.Equal(all, before) || !bytes.Equal(second, want) {
			t.Error(name, "an answer shares memory")
		}
		fill(all)
		if !bytes.Equal(second, want) {
			t.Error(name, "an answer hangs on an argument")
		}
		if third, _ := call([]byte("123456789")); !bytes.Equal(third, want) {
			t.Error(name, "an answer was kept")
		}
	}
}

// P14.1: the list of records isn't changed either, its spare room neither, with OK and with an error.
func TestJoinMemory(t *testing.T) {
	long := make([]byte, most+1)
	for _, third := range [][]byte{[]byte("d"), long} {
		l := append(texts("abc", ""), third, []byte("behind"))
		keep := slices.Clone(l)
		log.Join(l[:3]...)
		if !same(l, keep) {
			t.Error("a list that was handed in was changed")
		}
		for i := range l {
			if len(l[i]) > 0 && &l[i][0] != &keep[i][0] {
				t.Error("another record stands in the list")
			}
		}
	}
	b := []byte("abc")
	all, _ := log.Join(b, b)
	if !bytes.Equal(all, joined(b, b)) {
		t.Error(all)
	}
}

// P14.2: no record shares memory with the bytes, with another one, or with another answer's.
func TestScanMemory(t *testing.T) {
	l := texts("abc", "", "123456789", "", "d")
	all, b := roomy(joined(l...))
	before := bytes.Clone(all)
	first, _ := log.Scan(b)
	second, _ := log.Scan(b)
	if !bytes.Equal(all, before) {
		t.Error("an argument was changed")
	}
	for i := range first {
		fill(first[i])
		if !bytes.Equal(all, before) || !same(second, l) || !same(first[i+1:], l[i+1:]) {
			t.Error(i, "a record shares memory")
		}
		first[i] = nil
	}
	fill(all)
	if !same(second, l) {
		t.Error("a record hangs on an argument")
	}
	for i := range second {
		_ = append(second[i], "and more"...)
	}
	if !same(second, l) {
		t.Error("a record's spare room is another one's")
	}
}

// P1: no call panics, and each ends soon, at great arguments.
func TestGreat(t *testing.T) {
	start := time.Now()
	b := make([]byte, 1<<22)
	log.Frame(b)
	log.Size(b)
	log.Join(b, b)
	scans(t, b, 0)
	for i := range b {
		b[i] = 0xff
	}
	scans(t, b, 0)
	// Frames of no bytes: as many as there may be.
	none := bytes.Repeat([]byte{4, 0, 0, 0, 0}, 1<<20/5)
	if l, n := log.Scan(none); len(l) != 1<<20/5 || n != len(none) {
		t.Error(len(l), n)
	}
	l := slices.Repeat([][]byte{nil}, 1<<18)
	if got, e := log.Join(l...); len(got) != 5<<18 || e != api.OK {
		t.Error(len(got), e)
	}
	if took := time.Since(start); took > 30*time.Second {
		t.Error(took)
	}
}

// P14.1 and P1
func FuzzFrame(f *testing.F) {
	for _, n := range []int{0, 1, 123, 124, 4000} {
		f.Add(make([]byte, n), []byte("abc"))
	}
	f.Fuzz(func(t *testing.T, a, b []byte) {
		all, e := log.Join(a, b)
		if len(a) > most || len(b) > most {
			if len(all) != 0 || e != api.ErrSize {
				t.Fatal(len(all), e)
			}
			return
		}
		if e != api.OK || len(all) != log.Size(a)+log.Size(b) || !bytes.Equal(all, joined(a, b)) {
			t.Fatal(len(all), e)
		}
		scans(t, all, len(all), a, b)
	})
}

// P14.2 and P1
func FuzzScan(f *testing.F) {
	f.Add([]byte{})
	f.Add(joined(texts("abc", "", "d")...))
	f.Add([]byte{0x84, 0x80, 0x01, 0, 0})
	f.Add([]byte{0xff, 0xff, 0xff, 0xff, 0xff, 0xff, 0xff, 0xff, 0xff, 0x01})
	f.Fuzz(func(t *testing.T, b []byte) {
		want, good := model(b)
		scans(t, b, good, want...)
	})
}
