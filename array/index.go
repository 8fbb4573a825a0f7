package array

import (
	"iter"
	"slices"

	"arrayarchive/api"
)

// product returns the product of at most MaxRank numbers of at most MaxSize.
func product(numbers []int) int {
	p := 1
	for _, n := range numbers {
		p *= n
	}
	return p
}

// isIndex reports whether a list of numbers is an index of a shape.
func isIndex(shape, index []int) bool {
	if len(index) != len(shape) {
		return false
	}
	for k, i := range index {
		if i < 0 || i >= shape[k] {
			return false
		}
	}
	return true
}

// indexes returns an iterator over the places of a shape's elements in row-major order, with their indexes. It goes on with the index that it has given, which is therefore neither kept nor changed.
func indexes(shape []int) iter.Seq2[int, []int] {
	return func(yield func(int, []int) bool) {
		index := make([]int, len(shape))
		// The number of places is the end, as a size of 0 may stand behind large ones.
		for place := range product(shape) {
			if !yield(place, index) {
				return
			}
			step(shape, index)
		}
	}
}

// step makes the following index of one; the first one follows the last one.
func step(shape, index []int) {
	for k := len(shape) - 1; k >= 0; k-- {
		index[k]++
		if index[k] < shape[k] {
			return
		}
		index[k] = 0
	}
}

// placeOf returns the place of the element with an index, in row-major order.
func placeOf(shape, index []int) int {
	place := 0
	for k, i := range index {
		place = place*shape[k] + i
	}
	return place
}

func element(a api.Array, index []int) string {
	return a.Vals[placeOf(a.Shape, index)]
}

// build returns the array of a shape whose element with an index is value(index).
func build(shape []int, value func(index []int) string) api.Array {
	vals := make([]string, product(shape))
	for place, index := range indexes(shape) {
		vals[place] = value(index)
	}
	return api.Array{Shape: slices.Clone(shape), Vals: vals}
}
