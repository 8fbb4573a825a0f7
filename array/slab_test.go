package array_test

import (
	"fmt"
	"math"
	"slices"
	"testing"

	"arrayarchive/api"
	"arrayarchive/array"
)

// isCut reports whether a cut is valid for a size, element by element.
func isCut(size int, c api.Cut) bool {
	if c.Start < 0 || c.Count < 0 || c.Step < 1 || c.Start > size {
		return false
	}
	at := c.Start
	for i := range c.Count {
		if at >= size {
			return false
		}
		if i+1 < c.Count && c.Step > size {
			return false
		}
		at += c.Step
	}
	return true
}

// tryCut slices an array with one dimension more, which lies behind or in front of that of the cut.
func tryCut(t *testing.T, size int, c api.Cut) {
	t.Helper()
	for _, front := range []bool{false, true} {
		shape, slab := []int{size, 2}, []api.Cut{c, {Start: 0, Count: 2, Step: 1}}
		if front {
			slices.Reverse(shape)
			slices.Reverse(slab)
		}
		n := 0
		a := made(shape, func([]int) string { n++; return fmt.Sprint(n) })
		got, errno := array.Slice(a, slab)
		name := fmt.Sprintf("Slice of %v by %v", shape, slab)
		if !isCut(size, c) {
			refused(t, name, got, errno, api.ErrSlab)
			continue
		}
		check(t, name, got, errno, wantSlice(a, slab), api.OK)
	}
}

// wantSlice returns the elements of a slab.
func wantSlice(a api.Array, slab []api.Cut) api.Array {
	return made(countsOf(slab), func(index []int) string {
		from := make([]int, len(index))
		for k, i := range index {
			from[k] = positions(slab[k])[i]
		}
		return the(a, from)
	})
}

// P6.3

func TestCuts(t *testing.T) {
	for size := range 6 {
		for start := -2; start <= size+2; start++ {
			for count := -2; count <= size+2; count++ {
				for step := -2; step <= size+2; step++ {
					tryCut(t, size, api.Cut{Start: start, Count: count, Step: step})
				}
			}
		}
	}
}

func TestCutsThatOverflow(t *testing.T) {
	far := []int{math.MinInt, -1 << 62, -1, 0, 1, 2, 4, 1 << 31, 1 << 32, 1 << 61, 1 << 62, 1<<62 + 1, math.MaxInt - 1, math.MaxInt}
	for _, start := range far {
		for _, count := range far {
			for _, step := range far {
				tryCut(t, 4, api.Cut{Start: start, Count: count, Step: step})
			}
		}
	}
}

func TestSlice(t *testing.T) {
	got, errno := array.Slice(six(), []api.Cut{{Start: 0, Count: 2, Step: 1}, {Start: 0, Count: 2, Step: 2}})
	check(t, "Slice", got, errno, of([]int{2, 2}, "1 3 4 6"), api.OK)
	got, errno = array.Slice(six(), []api.Cut{{Start: 2, Count: 0, Step: 1}, {Start: 1, Count: 2, Step: 1}})
	check(t, "Slice of nothing", got, errno, of([]int{0, 2}, ""), api.OK)
	got, errno = array.Slice(of(nil, "5"), nil)
	check(t, "Slice of one", got, errno, of(nil, "5"), api.OK)
	got, errno = array.Slice(of([]int{1024, 0, 1024}, ""), []api.Cut{{Count: 1024, Step: 1}, {Step: 1}, {Count: 1024, Step: 1}})
	check(t, "Slice of a large shape", got, errno, of([]int{1024, 0, 1024}, ""), api.OK)
	r := newRandom()
	for range 3000 {
		a := filled(r, pick(r, someShapes))
		slab := someSlab(r, a.Shape)
		got, errno := array.Slice(a, slab)
		check(t, fmt.Sprintf("Slice(%s, %v)", show(a), slab), got, errno, wantSlice(a, slab), api.OK)
	}
}

func TestPaste(t *testing.T) {
	slab := []api.Cut{{Start: 0, Count: 2, Step: 1}, {Start: 0, Count: 2, Step: 2}}
	got, errno := array.Paste(six(), slab, of([]int{2, 2}, "7 _ 8 9"))
	check(t, "Paste", got, errno, of([]int{2, 3}, "7 2 _ 8 5 9"), api.OK)
	got, errno = array.Paste(of(nil, "5"), nil, of(nil, "_"))
	check(t, "Paste of one", got, errno, of(nil, "_"), api.OK)
	got, errno = array.Paste(six(), []api.Cut{{Start: 2, Step: 9}, {Count: 3, Step: 1}}, of([]int{0, 3}, ""))
	check(t, "Paste of nothing", got, errno, six(), api.OK)
	r := newRandom()
	for range 3000 {
		a := filled(r, pick(r, someShapes))
		slab := someSlab(r, a.Shape)
		b := filled(r, countsOf(slab))
		want := made(a.Shape, func(index []int) string {
			from := make([]int, len(index))
			for k, i := range index {
				from[k] = slices.Index(positions(slab[k]), i)
				if from[k] < 0 {
					return the(a, index)
				}
			}
			return the(b, from)
		})
		got, errno := array.Paste(a, slab, b)
		check(t, fmt.Sprintf("Paste(%s, %v, %s)", show(a), slab, show(b)), got, errno, want, api.OK)
	}
}

// badSlabs returns slabs that are not valid for the shape (2, 3).
func badSlabs() [][]api.Cut {
	whole := api.Cut{Count: 2, Step: 1}
	return [][]api.Cut{
		nil, {whole}, {whole, whole, whole}, {{Count: 3, Step: 1}, whole}, {whole, {Start: 2, Count: 2, Step: 1}}, {whole, {Count: 2}}, {{Start: -1, Count: 1, Step: 1}, whole},
		{whole, {Count: -1, Step: 1}}, {{Start: 3, Step: 1}, whole}, {whole, {Start: 4, Step: 1}}, {whole, {Count: 2, Step: 3}}, {whole, {Count: 1, Step: -1}}, {whole, {Start: 3, Count: 1, Step: 1}},
		{{Start: math.MaxInt, Count: 0, Step: 1}, whole}, {{Count: 3, Step: 1 << 62}, whole}, {{Count: 5, Step: 1 << 62}, whole}, {{Count: 0, Step: 0}, whole},
	}
}

func TestSliceErrors(t *testing.T) {
	for _, a := range badArrays() {
		for _, slab := range append(badSlabs(), []api.Cut{{Count: 2, Step: 1}, {Count: 3, Step: 1}}) {
			got, errno := array.Slice(a, slab)
			refused(t, "Slice of a bad array", got, errno, api.ErrShape)
		}
	}
	for _, slab := range badSlabs() {
		got, errno := array.Slice(six(), slab)
		refused(t, fmt.Sprintf("Slice by %v", slab), got, errno, api.ErrSlab)
	}
	got, errno := array.Slice(of(nil, "5"), []api.Cut{{Count: 1, Step: 1}})
	refused(t, "Slice of one", got, errno, api.ErrSlab)
}

func TestPasteErrors(t *testing.T) {
	good := []api.Cut{{Count: 2, Step: 1}, {Count: 2, Step: 1}}
	square := of([]int{2, 2}, "1 2 3 4")
	for _, bad := range badArrays() {
		for _, slab := range append(badSlabs(), good) {
			for _, b := range []api.Array{square, six(), bad} {
				got, errno := array.Paste(bad, slab, b)
				refused(t, "Paste into a bad array", got, errno, api.ErrShape)
			}
			got, errno := array.Paste(six(), slab, bad)
			refused(t, "Paste of a bad array", got, errno, api.ErrShape)
		}
	}
	others := []api.Array{of([]int{4}, "1 2 3 4"), of([]int{1, 4}, "1 2 3 4"), of([]int{2, 2, 1}, "1 2 3 4"), of([]int{2}, "1 2"), six(), of(nil, "1"), of([]int{0, 2}, "")}
	for _, slab := range badSlabs() {
		for _, b := range append(others, square) {
			got, errno := array.Paste(six(), slab, b)
			refused(t, fmt.Sprintf("Paste into %v", slab), got, errno, api.ErrSlab)
		}
	}
	for _, b := range others {
		got, errno := array.Paste(six(), good, b)
		refused(t, "Paste of "+show(b), got, errno, api.ErrShape)
	}
	got, errno := array.Paste(six(), []api.Cut{{Count: 0, Step: 1}, {Count: 3, Step: 1}}, of([]int{3, 0}, ""))
	refused(t, "Paste of other nothing", got, errno, api.ErrShape)
}
