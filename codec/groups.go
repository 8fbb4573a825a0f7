package codec

import (
	"iter"

	"arrayarchive/api"
)

const (
	maxBytes = 1 << 20 // bytes that go into a stage
	maxGroup = 8       // bytes of a group
)

func isGroupSize(n int) bool {
	return 1 <= n && n <= maxGroup
}

// checkGroups returns the error of bytes that are taken in groups of n.
func checkGroups(b []byte, n int) api.Errno {
	if !isGroupSize(n) {
		return api.ErrArg
	}
	if len(b) > maxBytes {
		return api.ErrLimit
	}
	return api.OK
}

// number returns the number for which at most maxGroup bytes stand.
func number(b []byte) uint64 {
	var x uint64
	for _, c := range b {
		x = x<<8 | uint64(c)
	}
	return x
}

// appendNumber appends the lowest n bytes of a number.
func appendNumber(out []byte, x uint64, n int) []byte {
	for shift := 8 * (n - 1); shift >= 0; shift -= 8 {
		out = append(out, byte(x>>shift))
	}
	return out
}

// numbers returns an iterator over the numbers of the groups of n bytes.
func numbers(b []byte, n int) iter.Seq[uint64] {
	return func(yield func(uint64) bool) {
		for at := 0; at+n <= len(b); at += n {
			if !yield(number(b[at : at+n])) {
				return
			}
		}
	}
}

// rest returns the bytes behind the last group of n bytes.
func rest(b []byte, n int) []byte {
	return b[len(b)-len(b)%n:]
}

// changed returns the bytes with the number x of each group, from the first one on, replaced by change(x).
func changed(b []byte, n int, change func(x uint64) uint64) ([]byte, api.Errno) {
	if errno := checkGroups(b, n); errno != api.OK {
		return nil, errno
	}
	out := make([]byte, 0, len(b))
	for x := range numbers(b, n) {
		out = appendNumber(out, change(x), n)
	}
	return append(out, rest(b, n)...), api.OK
}

// Delta returns the bytes with each group of n bytes less the one in front of it.
func Delta(b []byte, n int) ([]byte, api.Errno) {
	var last uint64
	return changed(b, n, func(x uint64) uint64 {
		difference := x - last
		last = x
		return difference
	})
}

// Undelta returns the bytes whose Delta is b.
func Undelta(b []byte, n int) ([]byte, api.Errno) {
	var sum uint64
	return changed(b, n, func(x uint64) uint64 {
		sum += x
		return sum
	})
}

// shuffled returns an iterator over the places of so many bytes behind Shuffle, in order, each with the place of the same byte in front of it.
func shuffled(size, n int) iter.Seq2[int, int] {
	return func(yield func(int, int) bool) {
		to, end := 0, size-size%n
		for first := range n {
			for from := first; from < end; from += n {
				if !yield(to, from) {
					return
				}
				to++
			}
		}
		for ; to < size; to++ {
			if !yield(to, to) {
				return
			}
		}
	}
}

// Shuffle returns the first bytes of all groups of n bytes, then the second ones, and so on.
func Shuffle(b []byte, n int) ([]byte, api.Errno) {
	if errno := checkGroups(b, n); errno != api.OK {
		return nil, errno
	}
	out := make([]byte, len(b))
	for to, from := range shuffled(len(b), n) {
		out[to] = b[from]
	}
	return out, api.OK
}

// Unshuffle returns the bytes whose Shuffle is b.
func Unshuffle(b []byte, n int) ([]byte, api.Errno) {
	if errno := checkGroups(b, n); errno != api.OK {
		return nil, errno
	}
	out := make([]byte, len(b))
	for from, to := range shuffled(len(b), n) {
		out[to] = b[from]
	}
	return out, api.OK
}
