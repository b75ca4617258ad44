// Package seam is layer 2: see shared/doc/02-seam.md.
package seam

import (
	"bytes"
	"slices"

	"arrears/api"
)

const (
	polynomial = 0xedb88320
	word       = 4 // the bytes of a length, a seed, a check
)

// Check is CRC-32 of seed's four bytes and p.
func Check(seed uint32, p []byte) uint32 {
	var first [word]byte
	put(first[:], seed)
	return ^divide(divide(^uint32(0), first[:]), p)
}

// divide takes the polynomial's remainder on from sum through p.
func divide(sum uint32, p []byte) uint32 {
	for _, b := range p {
		sum ^= uint32(b)
		for range 8 {
			sum = sum>>1 ^ polynomial&-(sum&1)
		}
	}
	return sum
}

// Frame is p with its length ahead of it and a check behind it.
func Frame(seed uint32, p []byte) []byte {
	f := make([]byte, Size(len(p)))
	end := word + len(p)
	put(f, uint32(len(p)))
	copy(f[word:], p)
	put(f[end:], Check(seed, f[:end]))
	return f
}

// Next tells what the frame that b begins with has, and how long the frame is.
func Next(seed uint32, b []byte) ([]byte, int, error) {
	if blank(b) {
		return nil, 0, api.ErrNone
	}
	// The length told may be any: it is held against b as wide as it is, and only then an int.
	if len(b) < Size(0) || uint64(get(b)) > uint64(len(b)-Size(0)) {
		return nil, 0, api.ErrForm
	}
	n := int(get(b))
	end := word + n
	switch {
	case n > api.MaxRecord:
		return nil, 0, api.ErrLong
	case Check(seed, b[:end]) != get(b[end:]):
		return nil, 0, api.ErrSum
	}
	return bytes.Clone(b[word:end]), Size(n), nil
}

// Size is how many bytes the frame of n bytes has.
func Size(n int) int {
	if n < 0 {
		return 0
	}
	return word + n + word
}

func blank(b []byte) bool {
	return !slices.ContainsFunc(b, func(c byte) bool { return c != 0 })
}

// put writes n, the lowest byte first.
func put(b []byte, n uint32) {
	for k := range word {
		b[k] = byte(n >> (8 * k))
	}
}

// get reads what put has written.
func get(b []byte) uint32 {
	var n uint32
	for k := range word {
		n |= uint32(b[k]) << (8 * k)
	}
	return n
}
