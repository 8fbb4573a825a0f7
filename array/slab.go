package array

import (
	"slices"

	"arrayarchive/api"
)

// isSlab reports whether a list of cuts is a slab of a shape.
func isSlab(shape []int, slab []api.Cut) bool {
	if len(slab) != len(shape) {
		return false
	}
	for k, c := range slab {
		if !isCut(shape[k], c) {
			return false
		}
	}
	return true
}

// isCut reports whether a cut is one of a dimension with a size.
func isCut(size int, c api.Cut) bool {
	if c.Start < 0 || c.Count < 0 || c.Step < 1 || c.Start > size {
		return false
	}
	// Start + (Count-1) * Step itself might be too great for an int.
	return c.Count == 0 || c.Start < size && c.Count-1 <= (size-1-c.Start)/c.Step
}

// shapeOf returns the shape of a slab.
func shapeOf(slab []api.Cut) []int {
	shape := make([]int, len(slab))
	for k, c := range slab {
		shape[k] = c.Count
	}
	return shape
}

// within returns a function that turns an index within a slab into that of the same element of the whole array. Each of its answers takes the place of the one before.
func within(slab []api.Cut) func(index []int) []int {
	whole := make([]int, len(slab))
	return func(index []int) []int {
		for k, c := range slab {
			whole[k] = c.Start + index[k]*c.Step
		}
		return whole
	}
}

// Slice returns the elements of a slab.
func Slice(a api.Array, slab []api.Cut) (api.Array, api.Errno) {
	if !Valid(a) {
		return api.Array{}, api.ErrShape
	}
	if !isSlab(a.Shape, slab) {
		return api.Array{}, api.ErrSlab
	}
	whole := within(slab)
	return build(shapeOf(slab), func(index []int) string {
		return element(a, whole(index))
	}), api.OK
}

// Paste returns a with the elements of a slab replaced by those of b.
func Paste(a api.Array, slab []api.Cut, b api.Array) (api.Array, api.Errno) {
	if !Valid(a) || !Valid(b) {
		return api.Array{}, api.ErrShape
	}
	if !isSlab(a.Shape, slab) {
		return api.Array{}, api.ErrSlab
	}
	if !slices.Equal(b.Shape, shapeOf(slab)) {
		return api.Array{}, api.ErrShape
	}
	out := copied(a)
	whole := within(slab)
	for place, index := range indexes(b.Shape) {
		out.Vals[placeOf(a.Shape, whole(index))] = b.Vals[place]
	}
	return out, api.OK
}
