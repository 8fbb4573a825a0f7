package array

import (
	"slices"

	"arrayarchive/api"
)

// checkChunks returns the error of a shape and its chunk sizes.
func checkChunks(shape, sizes []int) api.Errno {
	if !ValidShape(shape) {
		return api.ErrShape
	}
	if len(sizes) != len(shape) {
		return api.ErrArg
	}
	for _, size := range sizes {
		if size < 1 || size > api.MaxSize {
			return api.ErrArg
		}
	}
	return api.OK
}

// counts returns how many chunks there are along each dimension.
func counts(shape, sizes []int) []int {
	out := make([]int, len(shape))
	for k, size := range sizes {
		out[k] = (shape[k] + size - 1) / size
	}
	return out
}

// Chunks returns the indexes of all chunks in row-major order.
func Chunks(shape, sizes []int) ([][]int, api.Errno) {
	if errno := checkChunks(shape, sizes); errno != api.OK {
		return nil, errno
	}
	var out [][]int
	for _, index := range indexes(counts(shape, sizes)) {
		out = append(out, slices.Clone(index))
	}
	return out, api.OK
}

// Box returns the slab of the elements of a chunk.
func Box(shape, sizes, index []int) ([]api.Cut, api.Errno) {
	if errno := checkChunks(shape, sizes); errno != api.OK {
		return nil, errno
	}
	if !isIndex(counts(shape, sizes), index) {
		return nil, api.ErrSlab
	}
	out := make([]api.Cut, len(shape))
	for k, size := range sizes {
		start := index[k] * size
		out[k] = api.Cut{Start: start, Count: min(size, shape[k]-start), Step: 1}
	}
	return out, api.OK
}

// Touched returns, in row-major order, the indexes of the chunks that have an element of a slab.
func Touched(shape, sizes []int, slab []api.Cut) ([][]int, api.Errno) {
	if errno := checkChunks(shape, sizes); errno != api.OK {
		return nil, errno
	}
	if !isSlab(shape, slab) {
		return nil, api.ErrSlab
	}
	// A chunk has an element of the slab exactly if its number is met along each dimension.
	met := make([][]int, len(slab))
	lengths := make([]int, len(slab))
	for k, c := range slab {
		met[k] = metBy(c, sizes[k])
		lengths[k] = len(met[k])
	}
	var out [][]int
	for _, choice := range indexes(lengths) {
		index := make([]int, len(choice))
		for k, i := range choice {
			index[k] = met[k][i]
		}
		out = append(out, index)
	}
	return out, api.OK
}

// metBy returns the numbers of the chunks along a dimension that have an element of a cut, in ascending order.
func metBy(c api.Cut, size int) []int {
	var numbers []int
	for i := range c.Count {
		numbers = append(numbers, (c.Start+i*c.Step)/size)
	}
	return slices.Compact(numbers)
}
