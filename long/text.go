package long

import (
	"math/bits"
	"slices"
	"strconv"
	"strings"
)

// A limb holds every number of limbDigits digits.
const (
	limbDigits = 19
	limbUnit   = 10_000_000_000_000_000_000
)

// Read returns the number of a text: an optional `-`, digits, and optionally either `.` and digits, or `/` and digits that are not all 0. It returns false for any other text.
func Read(s string) (Rat, bool) {
	digits, negative := strings.CutPrefix(s, "-")
	if whole, part, found := strings.Cut(digits, "."); found {
		if !isDigits(whole) || !isDigits(part) {
			return Rat{}, false
		}
		return fraction(negative, whole+part, "1"+strings.Repeat("0", len(part))), true
	}
	top, bottom, found := strings.Cut(digits, "/")
	if !found {
		bottom = "1"
	}
	if !isDigits(top) || !isDigits(bottom) || naturalOf(bottom).isZero() {
		return Rat{}, false
	}
	return fraction(negative, top, bottom), true
}

func fraction(negative bool, top, bottom string) Rat {
	return signed(negative, naturalOf(top), naturalOf(bottom))
}

func isDigits(s string) bool {
	for i := range len(s) {
		if s[i] < '0' || s[i] > '9' {
			return false
		}
	}
	return s != ""
}

func naturalOf(digits string) natural {
	z := make(natural, len(digits)/limbDigits+1)
	for digits != "" {
		n := (len(digits)-1)%limbDigits + 1
		w, _ := strconv.ParseUint(digits[:n], 10, 64)
		appendDigits(z, w)
		digits = digits[n:]
	}
	return z.trimmed()
}

// appendDigits makes z * limbUnit + w of z, which is long enough for it.
func appendDigits(z natural, w uint64) {
	carry := w
	for i := range z {
		high, low := bits.Mul64(z[i], limbUnit)
		low, c := bits.Add64(low, carry, 0)
		z[i] = low
		carry = high + c
	}
}

func (x natural) text() string {
	if x.isZero() {
		return "0"
	}
	var parts []string
	for !x.isZero() {
		quotient, rest := x.dividedByLimb(limbUnit)
		part := strconv.FormatUint(rest, 10)
		if !quotient.isZero() {
			part = strings.Repeat("0", limbDigits-len(part)) + part
		}
		parts = append(parts, part)
		x = quotient
	}
	slices.Reverse(parts)
	return strings.Join(parts, "")
}

// Text returns x in lowest terms: its numerator and, behind a `/`, its denominator, unless that is 1. It returns false if one of them has more than this many digits.
func (x Rat) Text(digits int) (string, bool) {
	top, bottom, ok := lowest(x.top, x.bottom, digits/limbDigits+1)
	if !ok {
		return "", false
	}
	above, below := top.text(), bottom.text()
	if len(above) > digits || len(below) > digits {
		return "", false
	}
	return fractionText(x.negative, above, below), true
}

// Exact returns the Text of x, however long it is.
func (x Rat) Exact() string {
	factor := commonFactor(x.top, x.bottom)
	top, _ := x.top.divided(factor)
	bottom, _ := x.bottom.divided(factor)
	return fractionText(x.negative, top.text(), bottom.text())
}

func fractionText(negative bool, above, below string) string {
	s := above
	if negative {
		s = "-" + s
	}
	if below != "1" {
		s += "/" + below
	}
	return s
}
