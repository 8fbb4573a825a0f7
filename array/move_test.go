package array_test

import (
	"fmt"
	"math"
	"testing"

	"arrayarchive/api"
	"arrayarchive/array"
)

// P6.6

func TestSpreadExamples(t *testing.T) {
	for _, c := range []struct {
		a           api.Array
		axes, shape []int
		want        string
	}{
		{of([]int{2}, "7 8"), []int{1}, []int{2, 2}, "7 8 7 8"},
		{of([]int{2}, "7 8"), []int{0}, []int{2, 2}, "7 7 8 8"},
		{of([]int{2}, "7 _"), []int{1}, []int{2, 2, 2}, "7 7 _ _ 7 7 _ _"},
		{six(), []int{1, 0}, []int{3, 2}, "1 4 2 5 3 6"},
		{six(), []int{0, 1}, []int{2, 3}, "1 2 3 4 5 6"},
		{six(), []int{2, 0}, []int{3, 2, 2}, "1 4 1 4 2 5 2 5 3 6 3 6"},
		{of(nil, "1"), nil, []int{2}, "1 1"},
		{of(nil, "1"), nil, nil, "1"},
		{of(nil, "1"), nil, []int{1024, 1024, 1024, 0}, ""},
		{of([]int{0}, ""), []int{3}, []int{1024, 1024, 1024, 0}, ""},
		{of([]int{2}, "7 8"), []int{0}, []int{2, 0}, ""},
	} {
		got, errno := array.Spread(c.a, c.axes, c.shape)
		check(t, fmt.Sprintf("Spread(%s, %v, %v)", show(c.a), c.axes, c.shape), got, errno, of(c.shape, c.want), api.OK)
	}
}

func TestSpread(t *testing.T) {
	r := newRandom()
	for range 2000 {
		shape := pick(r, someShapes)
		axes := r.Perm(len(shape))[:r.IntN(len(shape)+1)]
		var sizes []int
		for _, axis := range axes {
			sizes = append(sizes, shape[axis])
		}
		a := filled(r, sizes)
		want := made(shape, func(index []int) string {
			var from []int
			for _, axis := range axes {
				from = append(from, index[axis])
			}
			return the(a, from)
		})
		got, errno := array.Spread(a, axes, shape)
		check(t, fmt.Sprintf("Spread(%s, %v, %v)", show(a), axes, shape), got, errno, want, api.OK)
	}
}

func TestMove(t *testing.T) {
	got, errno := array.Move(six(), []int{1, 0})
	check(t, "Move", got, errno, of([]int{3, 2}, "1 4 2 5 3 6"), api.OK)
	got, errno = array.Move(of([]int{1, 2, 3}, "1 2 3 4 5 6"), []int{2, 0, 1})
	check(t, "Move", got, errno, of([]int{3, 1, 2}, "1 4 2 5 3 6"), api.OK)
	got, errno = array.Move(of(nil, "_"), nil)
	check(t, "Move of one", got, errno, of(nil, "_"), api.OK)
	got, errno = array.Move(of([]int{1024, 1024, 0, 1024}, ""), []int{3, 2, 0, 1})
	check(t, "Move of nothing", got, errno, of([]int{1024, 0, 1024, 1024}, ""), api.OK)
	r := newRandom()
	for range 2000 {
		a := filled(r, pick(r, someShapes))
		axes := r.Perm(len(a.Shape))
		shape := make([]int, len(axes))
		for k, axis := range axes {
			shape[k] = a.Shape[axis]
		}
		want := made(shape, func(index []int) string {
			from := make([]int, len(index))
			for k, i := range index {
				from[axes[k]] = i
			}
			return the(a, from)
		})
		got, errno := array.Move(a, axes)
		check(t, fmt.Sprintf("Move(%s, %v)", show(a), axes), got, errno, want, api.OK)
	}
}

// badAxes returns axes that are not two different dimensions of two.
func badAxes() [][]int {
	return [][]int{nil, {0}, {1}, {0, 1, 0}, {0, 1, 2}, {0, 0}, {1, 1}, {0, 2}, {2, 0}, {-1, 0}, {1, -1}, {math.MaxInt, 0}, {0, math.MinInt}, make([]int, 1000)}
}

func TestMoveErrors(t *testing.T) {
	for _, bad := range badArrays() {
		for _, axes := range append(badAxes(), []int{0, 1}) {
			got, errno := array.Move(bad, axes)
			refused(t, "Move of a bad array", got, errno, api.ErrShape)
		}
	}
	for _, axes := range badAxes() {
		for _, a := range []api.Array{six(), of([]int{2, 2}, "1 2 3 4"), of([]int{0, 0}, "")} {
			got, errno := array.Move(a, axes)
			refused(t, fmt.Sprintf("Move by %v", axes), got, errno, api.ErrArg)
		}
	}
	got, errno := array.Move(of(nil, "1"), []int{0})
	refused(t, "Move of one", got, errno, api.ErrArg)
}

func TestSpreadErrors(t *testing.T) {
	for _, bad := range badArrays() {
		for _, axes := range append(badAxes(), []int{0, 1}) {
			for _, shape := range append(badShapes, []int{2, 3}, []int{3, 2}) {
				got, errno := array.Spread(bad, axes, shape)
				refused(t, "Spread of a bad array", got, errno, api.ErrShape)
			}
		}
	}
	for _, axes := range append(badAxes(), []int{0, 1}) {
		for _, shape := range badShapes {
			got, errno := array.Spread(six(), axes, shape)
			refused(t, "Spread to a bad shape", got, errno, api.ErrShape)
		}
	}
	for _, axes := range badAxes() {
		for _, shape := range [][]int{{2, 3}, {5, 5}, {2, 2}, {0, 0}} {
			got, errno := array.Spread(six(), axes, shape)
			refused(t, fmt.Sprintf("Spread by %v", axes), got, errno, api.ErrArg)
		}
	}
	got, errno := array.Spread(six(), []int{0, 1}, []int{2})
	refused(t, "Spread to a smaller rank", got, errno, api.ErrArg)
	got, errno = array.Spread(six(), []int{0, 0}, []int{2})
	refused(t, "Spread to a smaller rank", got, errno, api.ErrArg)
	got, errno = array.Spread(of(nil, "1"), []int{0}, []int{1})
	refused(t, "Spread of one", got, errno, api.ErrArg)
	for _, c := range []struct{ axes, shape []int }{
		{[]int{0, 1}, []int{3, 2}}, {[]int{1, 0}, []int{2, 3}}, {[]int{0, 1}, []int{2, 4}}, {[]int{0, 1}, []int{1, 3}}, {[]int{0, 2}, []int{2, 3, 2}}, {[]int{0, 1}, []int{0, 3}}, {[]int{2, 1}, []int{5, 3, 0}},
	} {
		got, errno := array.Spread(six(), c.axes, c.shape)
		refused(t, fmt.Sprintf("Spread by %v to %v", c.axes, c.shape), got, errno, api.ErrShape)
	}
	// A dimension of the size 1 is not stretched.
	got, errno = array.Spread(of([]int{1}, "7"), []int{0}, []int{2})
	refused(t, "Spread of a single element", got, errno, api.ErrShape)
}

// P6.12

func TestMoves(t *testing.T) {
	r := newRandom()
	for range 1000 {
		a := filled(r, pick(r, someShapes))
		axes := r.Perm(len(a.Shape))
		inverse := make([]int, len(axes))
		inOrder := make([]int, len(axes))
		for k, axis := range axes {
			inverse[axis] = k
			inOrder[k] = k
		}
		there, errno := array.Move(a, axes)
		if errno != api.OK {
			t.Fatalf("Move: error %d", errno)
		}
		back, errno := array.Move(there, inverse)
		check(t, "Move and its inverse", back, errno, a, api.OK)
		got, errno := array.Spread(a, inOrder, a.Shape)
		check(t, "Spread with all axes in order", got, errno, a, api.OK)
		got, errno = array.Spread(a, inverse, there.Shape)
		check(t, "Spread as Move", got, errno, there, api.OK)
	}
}
