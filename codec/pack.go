package codec

import (
	"bytes"
	"math"
	"math/bits"

	"arrayarchive/api"
)

// countSize is the number of bytes with the number of groups.
const countSize = 4

// Pack returns the bytes with the groups of n bytes as differences from the least one, in as few bits as the greatest one needs.
func Pack(b []byte, n int) ([]byte, api.Errno) {
	if errno := checkGroups(b, n); errno != api.OK {
		return nil, errno
	}
	count := len(b) / n
	out := appendNumber(nil, uint64(count), countSize)
	if count > 0 {
		least, width := span(b, n)
		out = appendNumber(out, least, n)
		out = append(out, byte(width))
		out = append(out, packed(b, n, least, width)...)
	}
	return append(out, rest(b, n)...), api.OK
}

// span returns the least number of a group of n bytes, and the number of bits of the greatest difference from it; there is a group.
func span(b []byte, n int) (uint64, int) {
	least, greatest := uint64(math.MaxUint64), uint64(0)
	for x := range numbers(b, n) {
		least = min(least, x)
		greatest = max(greatest, x)
	}
	return least, bits.Len64(greatest - least)
}

// packed returns the differences of the groups of n bytes from the least one, in so many bits each.
func packed(b []byte, n int, least uint64, width int) []byte {
	var out []byte
	used := 0
	for x := range numbers(b, n) {
		for bit := width - 1; bit >= 0; bit-- {
			if used%8 == 0 {
				out = append(out, 0)
			}
			out[used/8] |= byte((x-least)>>bit&1) << (7 - used%8)
			used++
		}
	}
	return out
}

// Unpack returns the bytes whose Pack is b.
func Unpack(b []byte, n int) ([]byte, api.Errno) {
	if errno := checkGroups(b, n); errno != api.OK {
		return nil, errno
	}
	out, ok := unpacked(b, n)
	if !ok {
		return nil, api.ErrBytes
	}
	// The result of Pack is read as the bytes that it was made of, any other bytes as anything: only the former are what Pack returns.
	again, errno := Pack(out, n)
	if errno != api.OK || !bytes.Equal(again, b) {
		return nil, api.ErrBytes
	}
	return out, api.OK
}

// unpacked returns bytes that may be those whose Pack is b, and false if b is too short for them, or they would be too many.
func unpacked(b []byte, n int) ([]byte, bool) {
	if len(b) < countSize {
		return nil, false
	}
	groups := number(b[:countSize])
	b = b[countSize:]
	if groups == 0 {
		return bytes.Clone(b), true
	}
	if groups > maxBytes/uint64(n) || len(b) < n+1 {
		return nil, false
	}
	count, least, width := int(groups), number(b[:n]), int(b[n])
	b = b[n+1:]
	size := (count*width + 7) / 8
	if len(b) < size {
		return nil, false
	}
	return append(withoutPacking(b, n, count, least, width), b[size:]...), true
}

// withoutPacking returns so many groups of n bytes, of which b begins with the differences from the least one, in so many bits each.
func withoutPacking(b []byte, n, count int, least uint64, width int) []byte {
	out := make([]byte, 0, count*n)
	used := 0
	for range count {
		var difference uint64
		for range width {
			difference = difference<<1 | uint64(b[used/8]>>(7-used%8)&1)
			used++
		}
		out = appendNumber(out, least+difference, n)
	}
	return out
}
