package lab

import (
	"strconv"
	"strings"

	"arrayarchive/api"
	"arrayarchive/schema"
)

// maxDigits is the number of digits of the longest number of a script.
const maxDigits = 9

// words are the words of a line that are not read yet, with single spaces between them.
type words struct {
	rest string
	more bool // whether there is another word
	bad  bool // whether one that was read was not there, or had another form
}

func wordsOf(line string) *words {
	return &words{rest: line, more: true}
}

// require notes whether what was read has its form.
func (w *words) require(ok bool) {
	w.bad = w.bad || !ok
}

// haveEnded reports whether all words were there, had their forms, and are read.
func (w *words) haveEnded() bool {
	return !w.bad && !w.more
}

// word returns the next word, of any form.
func (w *words) word() string {
	word, rest, more := strings.Cut(w.rest, " ")
	w.require(word != "")
	w.rest, w.more = rest, more
	return word
}

// tail returns the rest of the line behind a space, which may be empty.
func (w *words) tail() string {
	tail := w.rest
	w.require(w.more)
	w.rest, w.more = "", false
	return tail
}

// some returns the rest of the line behind a space, which is not empty.
func (w *words) some() string {
	tail := w.tail()
	w.require(tail != "")
	return tail
}

func (w *words) path() string {
	path := w.word()
	w.require(schema.ValidPath(path))
	return path
}

// number returns the number of some digits, which are the next word or a part of it.
func (w *words) number(digits string) int {
	w.require(0 < len(digits) && len(digits) <= maxDigits)
	for i := range len(digits) {
		w.require('0' <= digits[i] && digits[i] <= '9')
	}
	if w.bad {
		return 0
	}
	n, _ := strconv.Atoi(digits)
	return n
}

// sizes returns the sizes of a shape.
func (w *words) sizes() []int {
	var l []int
	for size := range items(w.word(), "x") {
		l = append(l, w.number(size))
	}
	return l
}

func (w *words) slab() []api.Cut {
	var slab []api.Cut
	for cut := range items(w.word(), ",") {
		start, behind, _ := strings.Cut(cut, ":")
		count, step, _ := strings.Cut(behind, ":")
		slab = append(slab, api.Cut{Start: w.number(start), Count: w.number(count), Step: w.number(step)})
	}
	return slab
}

func (w *words) bits() []bool {
	var l []bool
	for bit := range items(w.word(), "") {
		w.require(bit == "0" || bit == "1")
		l = append(l, bit == "1")
	}
	return l
}
