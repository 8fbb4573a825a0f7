// Package quantity is layer 1: exact numbers as texts, missing values, and units with exact factors.
package quantity

import (
	"strconv"

	"arrayarchive/api"
	"arrayarchive/long"
)

// maxLength is the length of the longest number: a sign, a numerator, a `/` and a denominator.
const maxLength = 2*api.MaxDigits + 2

// maxInt is the greatest number that Int returns.
const maxInt = 1 << 53

// read returns the number whose text is x.
func read(x string) (long.Rat, bool) {
	if len(x) > maxLength {
		return long.Rat{}, false
	}
	n, ok := long.Read(x)
	// A number is exactly what is its own text: it has lowest terms and no needless zeros.
	if !ok || text(n) != x {
		return long.Rat{}, false
	}
	return n, true
}

// text returns the text of a number, or the missing value if it is too long.
func text(n long.Rat) string {
	s, _ := n.Text(api.MaxDigits)
	return s
}

// Valid reports whether s is a number.
func Valid(s string) bool {
	_, ok := read(s)
	return ok
}

// Parse returns the number that is equal to s, which may also be a decimal fraction, not in lowest terms, or have leading zeros.
func Parse(s string) (string, api.Errno) {
	if len(s) > api.MaxText {
		return "", api.ErrLimit
	}
	n, ok := long.Read(s)
	if !ok {
		return "", api.ErrNumber
	}
	x := text(n)
	if x == "" {
		return "", api.ErrLimit
	}
	return x, api.OK
}

// FromInt returns the number n.
func FromInt(n int) string {
	return strconv.Itoa(n)
}

// Int returns the integer x and true, if x is an integer from -2^53 to 2^53.
func Int(x string) (int, bool) {
	n, ok := integer(x, 64)
	if !ok || n < -maxInt || n > maxInt {
		return 0, false
	}
	return int(n), true
}

// integer returns the integer x and true, if x is one that fits in so many bits.
func integer(x string, bits int) (int64, bool) {
	if !Valid(x) {
		return 0, false
	}
	n, err := strconv.ParseInt(x, 10, bits)
	if err != nil {
		return 0, false
	}
	return n, true
}

// onTexts makes an operation on texts of one on numbers: it returns the missing value if an operand is no number, or the result is too long.
func onTexts(operation func(a, b long.Rat) long.Rat) func(x, y string) string {
	return func(x, y string) string {
		a, ok := read(x)
		if !ok {
			return ""
		}
		b, ok := read(y)
		if !ok {
			return ""
		}
		return text(operation(a, b))
	}
}

// Add returns x + y, or the missing value.
func Add(x, y string) string {
	return onTexts(long.Rat.Add)(x, y)
}

// Sub returns x - y, or the missing value.
func Sub(x, y string) string {
	return onTexts(long.Rat.Sub)(x, y)
}

// Mul returns x * y, or the missing value.
func Mul(x, y string) string {
	return onTexts(long.Rat.Mul)(x, y)
}

// Div returns x / y, or the missing value, also if y is 0.
func Div(x, y string) string {
	if y == "0" {
		return ""
	}
	return onTexts(long.Rat.Quo)(x, y)
}

// Compare returns -1, 0 or 1, as x is less than, equal to or greater than y, and true for two numbers.
func Compare(x, y string) (int, bool) {
	a, ok := read(x)
	if !ok {
		return 0, false
	}
	b, ok := read(y)
	if !ok {
		return 0, false
	}
	return a.Sub(b).Sign(), true
}

// Floor returns the greatest integer that is not greater than x, or the missing value.
func Floor(x string) string {
	n, ok := read(x)
	if !ok {
		return ""
	}
	return text(n.Floor())
}

// Round returns the multiple of step that is nearest to x, the greater one of two, or the missing value.
func Round(x, step string) string {
	if !isPositive(step) {
		return ""
	}
	half := long.Int(1).Quo(long.Int(2))
	return onTexts(func(a, b long.Rat) long.Rat {
		return a.Quo(b).Add(half).Floor().Mul(b)
	})(x, step)
}

func isPositive(x string) bool {
	n, ok := read(x)
	return ok && n.Sign() > 0
}

// Sum returns the sum of the numbers in the list, without the missing values, or the missing value if it is too long.
func Sum(l []string) string {
	numbers := make([]long.Rat, 0, len(l))
	for _, x := range l {
		if n, ok := read(x); ok {
			numbers = append(numbers, n)
		}
	}
	return text(long.Total(numbers))
}

// Fits reports whether x is a value of a type.
func Fits(kind int, x string) bool {
	bits := 0
	switch kind {
	case api.TypeI8:
		bits = 8
	case api.TypeI16:
		bits = 16
	case api.TypeI32:
		bits = 32
	case api.TypeI64:
		bits = 64
	case api.TypeNum:
		return x == "" || Valid(x)
	default:
		return false
	}
	_, ok := integer(x, bits)
	return x == "" || ok
}
