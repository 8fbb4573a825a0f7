package calc

import (
	"slices"

	"arrayarchive/api"
	"arrayarchive/array"
)

// region is a part of an array: the elements that have one of some positions along each dimension. Positions are in ascending order, each once.
type region [][]int

// span returns the positions from the first one to less than the end.
func span(first, end int) []int {
	positions := make([]int, end-first)
	for i := range positions {
		positions[i] = first + i
	}
	return positions
}

// wholeOf returns the region of all elements of a shape.
func wholeOf(shape []int) region {
	out := make(region, len(shape))
	for k, size := range shape {
		out[k] = span(0, size)
	}
	return out
}

// positionsOf returns the positions of a cut of a dimension, and whether it is one.
func positionsOf(size int, c api.Cut) ([]int, bool) {
	// Each element is a chunk of its own.
	met, errno := array.Touched([]int{size}, []int{1}, []api.Cut{c})
	return slices.Concat(met...), errno == api.OK
}

// regionOf returns the region of a slab, or panics if it is none of the shape.
func regionOf(shape []int, slab []api.Cut) region {
	if len(slab) != len(shape) {
		panic(api.ErrArg)
	}
	out := make(region, len(slab))
	for k, c := range slab {
		positions, ok := positionsOf(shape[k], c)
		if !ok {
			panic(api.ErrArg)
		}
		out[k] = positions
	}
	return out
}

func (r region) shape() []int {
	shape := make([]int, len(r))
	for k, positions := range r {
		shape[k] = len(positions)
	}
	return shape
}

// count returns the number of the elements.
func (r region) count() int {
	product := 1
	for _, positions := range r {
		product *= len(positions)
	}
	return product
}

// replaced returns the region with other positions along an axis.
func (r region) replaced(axis int, positions []int) region {
	out := slices.Clone(r)
	out[axis] = positions
	return out
}

// indexes returns the indexes of the elements in row-major order.
func (r region) indexes() [][]int {
	list := [][]int{{}}
	for _, positions := range r {
		longer := make([][]int, 0, len(list)*len(positions))
		for _, index := range list {
			for _, position := range positions {
				longer = append(longer, append(slices.Clip(index), position))
			}
		}
		list = longer
	}
	return list
}

// placeOf returns the place of the element with an index, in row-major order.
func placeOf(shape, index []int) int {
	place := 0
	for k, i := range index {
		place = place*shape[k] + i
	}
	return place
}
