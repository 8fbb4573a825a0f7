package codec

import (
	"slices"

	"arrayarchive/api"
)

// Tokens of the dictionary coder: a byte below copyToken and plain bytes, or a byte from copyToken on and a distance.
const (
	copyToken   = 128
	copySize    = 3         // bytes of a token with a distance
	minCopy     = 4         // bytes for which such a token stands
	maxCopy     = 131       // the most of them
	maxDistance = 1<<16 - 1 // from a list of bytes to the same one in front of it
	maxPlain    = 128       // bytes for which a token of plain bytes stands
)

// Dict returns the bytes with tokens in place of what is found in front of it too.
func Dict(b []byte) ([]byte, api.Errno) {
	if len(b) > maxBytes {
		return nil, api.ErrLimit
	}
	x := newIndex(b)
	var out []byte
	plain := 0 // the first place that is in no token yet
	for place := 0; place < len(b); {
		length, distance := x.longest(place)
		if length == 0 {
			place++
			continue
		}
		out = appendPlain(out, b[plain:place])
		out = append(out, byte(copyToken+length-minCopy), byte(distance>>8), byte(distance))
		place += length
		plain = place
	}
	return appendPlain(out, b[plain:]), api.OK
}

// appendPlain appends tokens that stand for plain bytes.
func appendPlain(out, b []byte) []byte {
	for part := range slices.Chunk(b, maxPlain) {
		out = append(out, byte(len(part)-1))
		out = append(out, part...)
	}
	return out
}

// index has the places of each list of minCopy bytes, in ascending order.
type index struct {
	bytes  []byte
	places map[[minCopy]byte][]int
}

func newIndex(b []byte) index {
	x := index{b, map[[minCopy]byte][]int{}}
	for place := 0; place+minCopy <= len(b); place++ {
		key := x.key(place)
		x.places[key] = append(x.places[key], place)
	}
	return x
}

func (x index) key(place int) [minCopy]byte {
	var key [minCopy]byte
	copy(key[:], x.bytes[place:])
	return key
}

// longest returns the length of the longest list of bytes from a place on that is also found in front of it, and the least distance at which it is, or 0 and 0 if there is none.
func (x index) longest(place int) (int, int) {
	most := min(maxCopy, len(x.bytes)-place)
	length, distance := minCopy-1, 0
	for length < most {
		longer, farther := x.next(place, length, distance, most)
		if longer == 0 {
			break
		}
		length, distance = longer, farther
	}
	if distance == 0 {
		return 0, 0
	}
	return length, distance
}

// next returns the length, at most most, and the distance of the nearest list, beyond a distance, of more than length bytes that is the same as the one from a place on, or 0 and 0 if there is none; length is at least minCopy-1 and less than most.
func (x index) next(place, length, distance, most int) (int, int) {
	// The last minCopy of the length+1 bytes that have to be the same are often rarer than the first ones, which lists of zeros have in common.
	offset := length + 1 - minCopy
	places := x.places[x.key(place+offset)]
	end, _ := slices.BinarySearch(places, place+offset-distance)
	for _, at := range slices.Backward(places[:end]) {
		from := at - offset
		if from < 0 || place-from > maxDistance {
			break
		}
		if same := x.same(from, place, most); same > length {
			return same, place - from
		}
	}
	return 0, 0
}

// same returns how many bytes, at most most, are the same from two places on.
func (x index) same(from, place, most int) int {
	n := 0
	for n < most && x.bytes[from+n] == x.bytes[place+n] {
		n++
	}
	return n
}

// Undict returns the bytes for which the tokens in b stand.
func Undict(b []byte) ([]byte, api.Errno) {
	var out []byte
	for len(b) > 0 {
		use := appendPlainToken
		if b[0] >= copyToken {
			use = appendCopyToken
		}
		longer, size, errno := use(out, b)
		if errno != api.OK {
			return nil, errno
		}
		out, b = longer, b[size:]
	}
	return out, api.OK
}

// appendPlainToken appends that for which the token of plain bytes stands with which b begins, and returns the size of the token too.
func appendPlainToken(out, b []byte) ([]byte, int, api.Errno) {
	size := 1 + int(b[0]) + 1
	if len(out)+size-1 > maxBytes {
		return nil, 0, api.ErrLimit
	}
	if len(b) < size {
		return nil, 0, api.ErrBytes
	}
	return append(out, b[1:size]...), size, api.OK
}

// appendCopyToken appends that for which the token with a distance stands with which b begins, and returns the size of the token too.
func appendCopyToken(out, b []byte) ([]byte, int, api.Errno) {
	length := int(b[0]) - copyToken + minCopy
	if len(out)+length > maxBytes {
		return nil, 0, api.ErrLimit
	}
	if len(b) < copySize {
		return nil, 0, api.ErrBytes
	}
	distance := int(number(b[1:copySize]))
	if distance == 0 || distance > len(out) {
		return nil, 0, api.ErrBytes
	}
	for range length {
		out = append(out, out[len(out)-distance])
	}
	return out, copySize, api.OK
}
