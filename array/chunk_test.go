package array_test

import (
	"fmt"
	"math"
	"slices"
	"testing"

	"arrayarchive/api"
	"arrayarchive/array"
)

// wantChunks returns the indexes of the chunks that have an element for which a function is true, in row-major order.
func wantChunks(shape, sizes []int, has func(index []int) bool) [][]int {
	var l [][]int
	for _, index := range allIndexes(shape) {
		chunk := []int{}
		for k, i := range index {
			chunk = append(chunk, i/sizes[k])
		}
		if has(index) {
			l = append(l, chunk)
		}
	}
	slices.SortFunc(l, slices.Compare)
	return slices.CompactFunc(l, slices.Equal)
}

// inSlab reports whether a slab has an element.
func inSlab(slab []api.Cut, index []int) bool {
	for k, i := range index {
		if !slices.Contains(positions(slab[k]), i) {
			return false
		}
	}
	return true
}

func checkBox(t *testing.T, shape, sizes, index []int, want []api.Cut, wantErrno api.Errno) {
	t.Helper()
	if box, errno := array.Box(shape, sizes, index); errno != wantErrno || !slices.Equal(box, want) {
		t.Errorf("Box(%v, %v, %v): %v, error %d, want %v, error %d", shape, sizes, index, box, errno, want, wantErrno)
	}
}

// P6.4

func TestChunksExamples(t *testing.T) {
	l, errno := array.Chunks([]int{3}, []int{2})
	checkIndexes(t, "Chunks", l, errno, [][]int{{0}, {1}}, api.OK)
	l, errno = array.Chunks([]int{3, 4}, []int{2, 2})
	checkIndexes(t, "Chunks", l, errno, [][]int{{0, 0}, {0, 1}, {1, 0}, {1, 1}}, api.OK)
	l, errno = array.Chunks([]int{4}, []int{1024})
	checkIndexes(t, "Chunks", l, errno, [][]int{{0}}, api.OK)
	l, errno = array.Chunks(nil, nil)
	checkIndexes(t, "Chunks of one element", l, errno, [][]int{{}}, api.OK)
	l, errno = array.Chunks([]int{0}, []int{1})
	checkIndexes(t, "Chunks of nothing", l, errno, nil, api.OK)
	l, errno = array.Touched([]int{3}, []int{2}, []api.Cut{{Start: 0, Count: 2, Step: 2}})
	checkIndexes(t, "Touched", l, errno, [][]int{{0}, {1}}, api.OK)
	l, errno = array.Touched([]int{3}, []int{2}, []api.Cut{{Start: 0, Count: 2, Step: 1}})
	checkIndexes(t, "Touched", l, errno, [][]int{{0}}, api.OK)
	l, errno = array.Touched([]int{9}, []int{2}, []api.Cut{{Start: 1, Count: 2, Step: 7}})
	checkIndexes(t, "Touched with a long step", l, errno, [][]int{{0}, {4}}, api.OK)
	l, errno = array.Touched([]int{4, 6}, []int{2, 2}, []api.Cut{{Start: 1, Count: 3, Step: 1}, {Start: 2, Count: 0, Step: 1}})
	checkIndexes(t, "Touched by nothing", l, errno, nil, api.OK)
	l, errno = array.Touched(nil, nil, nil)
	checkIndexes(t, "Touched of one element", l, errno, [][]int{{}}, api.OK)
	checkBox(t, []int{3}, []int{2}, []int{1}, []api.Cut{{Start: 2, Count: 1, Step: 1}}, api.OK)
	checkBox(t, []int{3, 5}, []int{2, 3}, []int{1, 1}, []api.Cut{{Start: 2, Count: 1, Step: 1}, {Start: 3, Count: 2, Step: 1}}, api.OK)
	checkBox(t, []int{4}, []int{1024}, []int{0}, []api.Cut{{Start: 0, Count: 4, Step: 1}}, api.OK)
	checkBox(t, nil, nil, nil, nil, api.OK)
}

func TestChunks(t *testing.T) {
	r := newRandom()
	for range 1000 {
		shape := pick(r, someShapes)
		sizes := someSizes(r, shape)
		all := wantChunks(shape, sizes, func([]int) bool { return true })
		l, errno := array.Chunks(shape, sizes)
		checkIndexes(t, fmt.Sprintf("Chunks(%v, %v)", shape, sizes), l, errno, all, api.OK)
		slab := someSlab(r, shape)
		want := wantChunks(shape, sizes, func(index []int) bool { return inSlab(slab, index) })
		l, errno = array.Touched(shape, sizes, slab)
		checkIndexes(t, fmt.Sprintf("Touched(%v, %v, %v)", shape, sizes, slab), l, errno, want, api.OK)
	}
}

// R1: a shape without elements has no chunks, however many its other dimensions would give.
func TestChunksOfNothing(t *testing.T) {
	for _, size := range []int{4, 1024} {
		whole, none := api.Cut{Count: size, Step: 1}, api.Cut{Step: 1}
		shape, sizes := []int{size, size, size, 0}, []int{1, 1, 1, 1}
		l, errno := array.Chunks(shape, sizes)
		checkIndexes(t, "Chunks of nothing", l, errno, nil, api.OK)
		l, errno = array.Touched(shape, sizes, []api.Cut{whole, whole, whole, none})
		checkIndexes(t, "Touched of nothing", l, errno, nil, api.OK)
		if t.Failed() { // the larger shape might need much memory
			return
		}
	}
}

func TestBox(t *testing.T) {
	r := newRandom()
	for range 300 {
		shape := pick(r, someShapes)
		sizes := someSizes(r, shape)
		for _, index := range wantChunks(shape, sizes, func([]int) bool { return true }) {
			var want []api.Cut
			for k, i := range index {
				c := api.Cut{Start: i * sizes[k], Step: 1}
				for c.Count < sizes[k] && c.Start+c.Count < shape[k] {
					c.Count++
				}
				want = append(want, c)
			}
			checkBox(t, shape, sizes, index, want, api.OK)
			for k := range index {
				for _, i := range []int{-1, (shape[k]-1)/sizes[k] + 1, 1 << 32, 1 << 62, math.MaxInt, math.MinInt} {
					checkBox(t, shape, sizes, with(index, k, i), nil, api.ErrSlab)
				}
				checkBox(t, shape, sizes, index[:k], nil, api.ErrSlab)
			}
			checkBox(t, shape, sizes, append(slices.Clone(index), 0), nil, api.ErrSlab)
		}
		if slices.Contains(shape, 0) {
			checkBox(t, shape, sizes, make([]int, len(shape)), nil, api.ErrSlab)
		}
	}
}

// badSizes returns chunk sizes that do not fit the shape (2, 3).
func badSizes() [][]int {
	return [][]int{nil, {1}, {1, 1, 1}, {0, 1}, {1, 0}, {-1, 1}, {1, -1}, {1025, 1}, {1, 1025}, {math.MaxInt, 1}, {1, math.MinInt}}
}

func TestChunkErrors(t *testing.T) {
	good := []int{2, 2}
	slab, index := []api.Cut{{Count: 1, Step: 1}, {Count: 1, Step: 1}}, []int{0, 0}
	for _, shape := range badShapes {
		for _, sizes := range append(badSizes(), good) {
			l, errno := array.Chunks(shape, sizes)
			checkIndexes(t, "Chunks of a bad shape", l, errno, nil, api.ErrShape)
			for _, index := range [][]int{index, {9}} {
				checkBox(t, shape, sizes, index, nil, api.ErrShape)
			}
			for _, slab := range append(badSlabs(), slab) {
				l, errno := array.Touched(shape, sizes, slab)
				checkIndexes(t, "Touched of a bad shape", l, errno, nil, api.ErrShape)
			}
		}
	}
	shape := []int{2, 3}
	for _, sizes := range badSizes() {
		l, errno := array.Chunks(shape, sizes)
		checkIndexes(t, "Chunks with bad sizes", l, errno, nil, api.ErrArg)
		for _, index := range [][]int{index, {9}, {0, -1}} {
			checkBox(t, shape, sizes, index, nil, api.ErrArg)
		}
		for _, slab := range append(badSlabs(), slab) {
			l, errno := array.Touched(shape, sizes, slab)
			checkIndexes(t, "Touched with bad sizes", l, errno, nil, api.ErrArg)
		}
	}
	for _, slab := range badSlabs() {
		l, errno := array.Touched(shape, good, slab)
		checkIndexes(t, fmt.Sprintf("Touched(%v)", slab), l, errno, nil, api.ErrSlab)
	}
	l, errno := array.Chunks([]int{0}, []int{0}) // also where there is no chunk
	checkIndexes(t, "Chunks of nothing with bad sizes", l, errno, nil, api.ErrArg)
}
