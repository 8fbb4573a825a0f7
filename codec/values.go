package codec

import (
	"bytes"
	"strconv"

	"arrayarchive/api"
	"arrayarchive/quantity"
)

// isCount reports whether there may be n values.
func isCount(n int) bool {
	return 0 <= n && n <= api.MaxCells
}

// checkValues returns the error of a type and its values.
func checkValues(kind int, vals []string) api.Errno {
	if !isType(kind) {
		return api.ErrArg
	}
	if !isCount(len(vals)) {
		return api.ErrLimit
	}
	for _, x := range vals {
		if !quantity.Fits(kind, x) {
			return api.ErrValue
		}
	}
	return api.OK
}

// Rounded returns the values rounded to multiples of step.
func Rounded(kind int, vals []string, step string) ([]string, api.Errno) {
	if !isPositive(step) {
		return nil, api.ErrArg
	}
	if errno := checkValues(kind, vals); errno != api.OK {
		return nil, errno
	}
	out := make([]string, len(vals))
	for i, x := range vals {
		out[i] = quantity.Round(x, step)
		if x != "" && out[i] == "" || !quantity.Fits(kind, out[i]) {
			return nil, api.ErrValue
		}
	}
	return out, api.OK
}

// presenceSize returns the number of bytes with a bit for each of n values.
func presenceSize(n int) int {
	return (n + 7) / 8
}

// Put returns the bytes of values: which ones are not missing, and then the values.
func Put(kind int, vals []string) ([]byte, api.Errno) {
	if errno := checkValues(kind, vals); errno != api.OK {
		return nil, errno
	}
	out := make([]byte, presenceSize(len(vals)))
	for i, x := range vals {
		if x != "" {
			out[i/8] |= 1 << (i % 8)
		}
		if kind == api.TypeNum {
			out = appendText(out, x)
		} else {
			out = appendInteger(out, x, Width(kind))
		}
	}
	return out, api.OK
}

// appendText appends the text of a number with its length, or nothing for a missing value.
func appendText(out []byte, x string) []byte {
	if x == "" {
		return out
	}
	out = append(out, byte(len(x)))
	return append(out, x...)
}

// appendInteger appends an integer that fits in so many bytes, or 0 for a missing value.
func appendInteger(out []byte, x string, width int) []byte {
	n, err := strconv.ParseInt(x, 10, 64)
	if err != nil {
		n = 0
	}
	return appendNumber(out, uint64(n), width)
}

// Get returns the n values whose Put is b.
func Get(kind, n int, b []byte) ([]string, api.Errno) {
	if !isType(kind) || !isCount(n) {
		return nil, api.ErrArg
	}
	if len(b) < presenceSize(n) {
		return nil, api.ErrBytes
	}
	vals := readValues(kind, n, b)
	// Bytes of values are read as these values, any other bytes as anything: only the former are what Put returns.
	again, errno := Put(kind, vals)
	if errno != api.OK || !bytes.Equal(again, b) {
		return nil, api.ErrBytes
	}
	return vals, api.OK
}

// readValues returns n values that may be those of b, which has at least a bit for each of them.
func readValues(kind, n int, b []byte) []string {
	r := reader{b}
	presence := r.take(presenceSize(n))
	vals := make([]string, n)
	for i := range vals {
		isThere := presence[i/8]>>(i%8)&1 == 1
		switch {
		case kind != api.TypeNum:
			x := r.integer(Width(kind))
			if isThere {
				vals[i] = x
			}
		case isThere:
			vals[i] = r.text()
		}
	}
	return vals
}

// reader has the bytes that are not read yet.
type reader struct {
	bytes []byte
}

// take returns the next n bytes, or fewer at the end.
func (r *reader) take(n int) []byte {
	n = min(n, len(r.bytes))
	taken := r.bytes[:n]
	r.bytes = r.bytes[n:]
	return taken
}

func (r *reader) text() string {
	size := number(r.take(1))
	return string(r.take(int(size)))
}

func (r *reader) integer(width int) string {
	// The shifts bring the sign into all higher bits.
	shift := 64 - 8*width
	n := int64(number(r.take(width))<<shift) >> shift
	return strconv.FormatInt(n, 10)
}
