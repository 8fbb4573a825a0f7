// Package long computes with rational numbers of any length.
package long

import (
	"cmp"
	"math/bits"
)

// natural is a number from 0 on: its limbs, the least significant one first, without zeros at the end. It is never changed once it is made.
type natural []uint64

func (x natural) trimmed() natural {
	n := len(x)
	for n > 0 && x[n-1] == 0 {
		n--
	}
	return x[:n]
}

func (x natural) isZero() bool {
	return len(x) == 0
}

func (x natural) compare(y natural) int {
	if len(x) != len(y) {
		return cmp.Compare(len(x), len(y))
	}
	for i := len(x) - 1; i >= 0; i-- {
		if x[i] != y[i] {
			return cmp.Compare(x[i], y[i])
		}
	}
	return 0
}

func (x natural) plus(y natural) natural {
	if len(x) < len(y) {
		x, y = y, x
	}
	z := make(natural, len(x)+1)
	copy(z, x)
	addInto(z, y)
	return z.trimmed()
}

// minus returns x - y; y is at most x.
func (x natural) minus(y natural) natural {
	z := make(natural, len(x))
	copy(z, x)
	subtractFrom(z, y)
	return z.trimmed()
}

func (x natural) times(y natural) natural {
	return multiply(nil, x, y)
}

func (x natural) power(n int) natural {
	z := natural{1}
	var spare natural
	for range n {
		product := multiply(spare, z, x)
		spare, z = z, product
	}
	return z
}

// multiply returns x * y. It lies in the memory of z if that is long enough: z is neither x nor y, and is not used any more.
func multiply(z, x, y natural) natural {
	n := len(x) + len(y)
	if cap(z) < n {
		z = make(natural, n)
	}
	z = z[:n]
	clear(z)
	for i, w := range y {
		z[i+len(x)] = addTimes(z[i:i+len(x)], x, w)
	}
	return z.trimmed()
}

// addInto adds y to z, which is at least as long, and reports whether a carry is left.
func addInto(z, y natural) bool {
	var carry uint64
	for i := range z {
		var w uint64
		if i < len(y) {
			w = y[i]
		}
		z[i], carry = bits.Add64(z[i], w, carry)
	}
	return carry == 1
}

// subtractFrom subtracts y from z; y is at most z.
func subtractFrom(z, y natural) {
	var borrow uint64
	for i := range z {
		var w uint64
		if i < len(y) {
			w = y[i]
		}
		z[i], borrow = bits.Sub64(z[i], w, borrow)
	}
}

// addTimes adds x * w to z, which is as long as x, and returns the limb that is carried.
func addTimes(z, x natural, w uint64) uint64 {
	var carry, c uint64
	for i, v := range x {
		high, low := bits.Mul64(v, w)
		low, c = bits.Add64(low, carry, 0)
		high += c
		z[i], c = bits.Add64(z[i], low, 0)
		carry = high + c
	}
	return carry
}
