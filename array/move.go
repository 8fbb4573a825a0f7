package array

import (
	"slices"

	"arrayarchive/api"
)

// areAxes reports whether axes are so many different dimensions of an array with so many.
func areAxes(axes []int, count, rank int) bool {
	if len(axes) != count {
		return false
	}
	for k, axis := range axes {
		if axis < 0 || axis >= rank || slices.Contains(axes[:k], axis) {
			return false
		}
	}
	return true
}

// spread returns the array of a shape whose element with an index i is that of a with the index (i[axes[0]], i[axes[1]], ..).
func spread(a api.Array, axes, shape []int) api.Array {
	from := make([]int, len(axes))
	return build(shape, func(index []int) string {
		for k, axis := range axes {
			from[k] = index[axis]
		}
		return element(a, from)
	})
}

// Spread returns the array of a shape along whose dimensions axes those of a lie.
func Spread(a api.Array, axes, shape []int) (api.Array, api.Errno) {
	if !Valid(a) || !ValidShape(shape) {
		return api.Array{}, api.ErrShape
	}
	if !areAxes(axes, len(a.Shape), len(shape)) {
		return api.Array{}, api.ErrArg
	}
	for k, axis := range axes {
		if a.Shape[k] != shape[axis] {
			return api.Array{}, api.ErrShape
		}
	}
	return spread(a, axes, shape), api.OK
}

// Move returns the array whose dimension k is the dimension axes[k] of a.
func Move(a api.Array, axes []int) (api.Array, api.Errno) {
	if !Valid(a) {
		return api.Array{}, api.ErrShape
	}
	if !areAxes(axes, len(a.Shape), len(a.Shape)) {
		return api.Array{}, api.ErrArg
	}
	shape := make([]int, len(axes))
	back := make([]int, len(axes))
	for k, axis := range axes {
		shape[k] = a.Shape[axis]
		back[axis] = k
	}
	return spread(a, back, shape), api.OK
}
