package calc

import (
	"slices"

	"arrayarchive/api"
)

// maxInteger is what a greater integer of an expression counts as.
const maxInteger = 1_000_000

// The words stand in the order of the numbers, from 1 on, that other layers give to what they mean.

func operationWords() []string {
	return []string{"+", "-", "*", "/", "lesser", "greater", "eq", "lt", "le", "else"}
}

func reductionWords() []string {
	return []string{"sum", "mean", "min", "max", "count"}
}

func fieldWords() []string {
	return []string{"year", "month", "season", "day"}
}

// numberOf returns the number that a word of a list has.
func numberOf(words []string, word string) int {
	return slices.Index(words, word) + 1
}

// integer returns the integer for which digits stand.
func integer(digits string) int {
	n := 0
	for i := range len(digits) {
		n = min(n*10+int(digits[i]-'0'), maxInteger)
	}
	return n
}

func isDigit(b byte) bool {
	return '0' <= b && b <= '9'
}

func isLetter(b byte) bool {
	return 'a' <= b && b <= 'z'
}

// inWord reports whether a byte may stand in a word or a name.
func inWord(b byte) bool {
	return isLetter(b) || isDigit(b) || b == '_'
}

// inQuotes reports whether a byte may stand in a text in quotes.
func inQuotes(b byte) bool {
	return ' ' <= b && b <= '~' && b != '"'
}

// short returns a text, or panics if it is too long for an expression.
func short(text string) string {
	if len(text) > api.MaxText {
		panic(api.ErrLimit)
	}
	return text
}
