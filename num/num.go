// Package num is layer 1, numbers in bytes: see shared/doc/01-num.md.
package num

import "moothill/api"

const (
	wordBits  = 64
	wordBytes = 8
	// Of a short number's tenth byte just the lowest bit still fits into 64.
	lastShort = 9
	mostLast  = 1
	// A short number's byte has seven bits of the number, and this one, if another byte comes.
	more      = 0x80
	shortBits = 7
)

// Bytes is a number's lowest bytes, the greatest first.
func Bytes(v uint64, n int) []byte {
	b := make([]byte, min(max(n, 0), wordBytes))
	for i := len(b) - 1; i >= 0; i-- {
		b[i] = byte(v)
		v >>= 8
	}
	return b
}

// Read is the number of some bytes, and how many they are.
func Read(b []byte, n int) (v uint64, rest int, e api.Errno) {
	if n < 1 || n > wordBytes {
		return 0, 0, api.ErrRange
	}
	if len(b) < n {
		return 0, 0, api.ErrShort
	}
	for _, c := range b[:n] {
		v = v<<8 | uint64(c)
	}
	return v, n, api.OK
}

// Short is a short number.
func Short(v uint64) []byte {
	var b []byte
	for v >= more {
		b = append(b, byte(v)|more)
		v >>= shortBits
	}
	return append(b, byte(v))
}

// ReadShort is the short number at the beginning of bytes, and how many it has.
func ReadShort(b []byte) (v uint64, rest int, e api.Errno) {
	for i, c := range b {
		if i == lastShort && c > mostLast {
			return 0, 0, api.ErrRange
		}
		v |= uint64(c&^more) << (shortBits * i)
		if c >= more {
			continue
		}
		if c == 0 && i > 0 {
			return 0, 0, api.ErrForm
		}
		return v, i + 1, api.OK
	}
	return 0, 0, api.ErrShort
}

// Zig is a signed number's zigzag.
func Zig(i int64) uint64 {
	// Shifted right by all but the sign, i is all ones below 0, else all noughts.
	return uint64(i)<<1 ^ uint64(i>>(wordBits-1))
}

// Zag is a zigzag's signed number.
func Zag(v uint64) int64 {
	return int64(v>>1) ^ -int64(v&1)
}

// Low is a number's lowest bits.
func Low(v uint64, bits int) uint64 {
	if bits >= wordBits {
		return v
	}
	return v & (1<<max(bits, 0) - 1)
}

// Fits tells whether a number has so few bits.
func Fits(v uint64, bits int) bool {
	return Low(v, bits) == v
}
