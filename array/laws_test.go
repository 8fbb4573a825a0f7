package array_test

import (
	"fmt"
	"math/rand/v2"
	"slices"
	"testing"

	"arrayarchive/api"
	"arrayarchive/array"
	"arrayarchive/quantity"
)

// must returns an array that has no error.
func must(t *testing.T) func(a api.Array, errno api.Errno) api.Array {
	return func(a api.Array, errno api.Errno) api.Array {
		t.Helper()
		if errno != api.OK {
			t.Fatalf("error %d", errno)
		}
		return a
	}
}

// P6.9

func TestSlabs(t *testing.T) {
	r, ok := newRandom(), must(t)
	for range 2000 {
		a := filled(r, pick(r, someShapes))
		slab := someSlab(r, a.Shape)
		b := filled(r, countsOf(slab))
		pasted := ok(array.Paste(a, slab, b))
		got, errno := array.Slice(pasted, slab)
		check(t, "Slice of Paste", got, errno, b, api.OK)
		for _, index := range allIndexes(a.Shape) {
			if !inSlab(slab, index) && the(pasted, index) != the(a, index) {
				t.Errorf("Paste into %v changes the element %v", slab, index)
			}
		}
		inner := someSlab(r, b.Shape)
		both := make([]api.Cut, len(slab))
		for k, c := range inner {
			both[k] = api.Cut{Start: slab[k].Start + c.Start*slab[k].Step, Count: c.Count, Step: slab[k].Step * c.Step}
			if c.Count < 2 {
				both[k].Step = 1
			}
			if c.Count == 0 {
				both[k].Start = 0
			}
		}
		got, errno = array.Slice(ok(array.Slice(a, slab)), inner)
		check(t, fmt.Sprintf("Slice of Slice by %v and %v", slab, inner), got, errno, ok(array.Slice(a, both)), api.OK)
	}
}

// P6.10

func TestChunkLaws(t *testing.T) {
	r, ok := newRandom(), must(t)
	for range 500 {
		a := filled(r, pick(r, someShapes))
		sizes := someSizes(r, a.Shape)
		slab := someSlab(r, a.Shape)
		chunks, errno := array.Chunks(a.Shape, sizes)
		if errno != api.OK {
			t.Fatalf("Chunks: error %d", errno)
		}
		pasted := ok(array.Fill(a.Shape, "123"))
		boxes := map[string]int{}
		var touched [][]int
		for _, chunk := range chunks {
			box, errno := array.Box(a.Shape, sizes, chunk)
			if errno != api.OK {
				t.Fatalf("Box: error %d", errno)
			}
			common := false
			for _, index := range allIndexes(a.Shape) {
				if inSlab(box, index) {
					boxes[fmt.Sprint(index)]++
					common = common || inSlab(slab, index)
				}
			}
			if common {
				touched = append(touched, chunk)
			}
			pasted = ok(array.Paste(pasted, box, ok(array.Slice(a, box))))
		}
		for _, index := range allIndexes(a.Shape) {
			if boxes[fmt.Sprint(index)] != 1 {
				t.Errorf("the element %v of %v is in %d boxes of the sizes %v", index, a.Shape, boxes[fmt.Sprint(index)], sizes)
			}
		}
		got, errno := array.Touched(a.Shape, sizes, slab)
		checkIndexes(t, "Touched", got, errno, touched, api.OK)
		check(t, "the Slices of all Boxes together", pasted, api.OK, a, api.OK)
	}
}

// P6.11

// shuffledAlong returns an array with the positions along an axis in another order.
func shuffledAlong(r *rand.Rand, a api.Array, axis int) api.Array {
	order := r.Perm(a.Shape[axis])
	return made(a.Shape, func(index []int) string { return the(a, with(index, axis, order[index[axis]])) })
}

func TestReductionsInAnyOrder(t *testing.T) {
	r, ok := newRandom(), must(t)
	for i := range 1000 {
		a := filled(r, pick(r, someShapes))
		if len(a.Shape) == 0 {
			continue
		}
		axis, red := r.IntN(len(a.Shape)), allReds[i%5]
		want := ok(array.Reduce(a, axis, red))
		got, errno := array.Reduce(shuffledAlong(r, a, axis), axis, red)
		check(t, "Reduce in another order", got, errno, want, api.OK)
		got, errno = array.Group(a, axis, red, [][]int{r.Perm(a.Shape[axis])})
		want.Shape = slices.Insert(want.Shape, axis, 1)
		check(t, "Group of all positions", got, errno, want, api.OK)
		zeros := ok(array.Fill(a.Shape, "0"))
		got, errno = array.Window(a, axis, api.RedSum, 1)
		check(t, "Window of one", got, errno, ok(array.Each(a, zeros, 10)), api.OK)
	}
}

func TestSumsAlongTwoAxes(t *testing.T) {
	r, ok := newRandom(), must(t)
	compared := 0
	for range 1000 {
		a := filled(r, pick(r, someShapes))
		if len(a.Shape) < 2 {
			continue
		}
		j := 1 + r.IntN(len(a.Shape)-1)
		i := r.IntN(j)
		byI, byJ := ok(array.Reduce(a, i, api.RedSum)), ok(array.Reduce(a, j, api.RedSum))
		one, other := ok(array.Reduce(byI, j-1, api.RedSum)), ok(array.Reduce(byJ, i, api.RedSum))
		if slices.Contains(slices.Concat(byI.Vals, byJ.Vals, one.Vals, other.Vals), "") {
			continue
		}
		compared++
		check(t, fmt.Sprintf("RedSum of %s along %d and %d", show(a), i, j), one, api.OK, other, api.OK)
	}
	if compared < 100 {
		t.Errorf("only %d sums are not missing", compared)
	}
}

func TestReductionsOfParts(t *testing.T) {
	r := newRandom()
	reduced := func(l []string, red int) string {
		x, errno := array.Reduced(l, red)
		if errno != api.OK {
			t.Fatalf("Reduced: error %d", errno)
		}
		return x
	}
	for range 1000 {
		l := samples(r, r.IntN(12))
		at := r.IntN(len(l) + 1)
		for _, red := range []int{api.RedMin, api.RedMax} {
			if got, want := reduced([]string{reduced(l[:at], red), reduced(l[at:], red)}, red), reduced(l, red); got != want {
				t.Errorf("the reduction %d of two parts: %q, want %q", red, got, want)
			}
		}
		if got, want := quantity.Add(reduced(l[:at], api.RedCount), reduced(l[at:], api.RedCount)), reduced(l, api.RedCount); got != want {
			t.Errorf("the number of both parts: %q, want %q", got, want)
		}
	}
}
