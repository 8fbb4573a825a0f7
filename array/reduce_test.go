package array_test

import (
	"fmt"
	"math"
	"math/big"
	"math/rand/v2"
	"slices"
	"strings"
	"testing"

	"arrayarchive/api"
	"arrayarchive/array"
	"arrayarchive/quantity"
)

func checkReduced(t *testing.T, l []string, red int, want string, wantErrno api.Errno) {
	t.Helper()
	if x, errno := array.Reduced(l, red); x != want || errno != wantErrno {
		t.Errorf("Reduced(%.300q, %d): %q, error %d, want %q, error %d", l, red, x, errno, want, wantErrno)
	}
}

// line returns the elements of an array that have an index but for the axis, along which they are at some positions.
func line(a api.Array, axis int, index, at []int) []string {
	var l []string
	for _, position := range at {
		l = append(l, the(a, with(index, axis, position)))
	}
	return l
}

// all returns the positions of a dimension.
func all(size int) []int {
	return positions(api.Cut{Count: size, Step: 1})
}

// P6.7

func TestReducedExamples(t *testing.T) {
	for _, c := range [][2]string{
		{"1 _ 3", "4 2 1 3 2"}, {"_ _", "0 _ _ _ 0"}, {"", "0 _ _ _ 0"}, {"_", "0 _ _ _ 0"}, {"1/2 1/3", "5/6 5/12 1/3 1/2 2"}, {"-1 -2 _", "-3 -3/2 -2 -1 2"}, {"0", "0 0 0 0 1"},
		{"10 9 -10 -9", "0 0 -10 10 4"}, {"2 2 2", "6 2 2 2 3"}, {"1/2 -1/2", "0 0 -1/2 1/2 2"}, {nines, nines + " " + nines + " " + nines + " " + nines + " 1"},
		// The sum is too long, but not what is made of it.
		{nines + " " + nines, "_ " + nines + " " + nines + " " + nines + " 2"}, {nines + " 1 -1", nines + " " + strings.Repeat("3", 40) + " -1 " + nines + " 3"}, {nines + " -" + nines + " 1", "1 1/3 -" + nines + " " + nines + " 3"},
		// The mean is too long, but not the sum.
		{"1/" + nines + " 1/" + nines, "2/" + nines + " 1/" + nines + " 1/" + nines + " 1/" + nines + " 2"}, {"1/" + nines + " 0", "1/" + nines + " _ 0 1/" + nines + " 2"},
	} {
		l := of(nil, c[0]).Vals
		for i, want := range of(nil, c[1]).Vals {
			checkReduced(t, l, allReds[i], want, api.OK)
		}
	}
}

func TestReduced(t *testing.T) {
	r := newRandom()
	for i := range 3000 {
		l := samples(r, r.IntN(10))
		checkReduced(t, l, allReds[i%5], wantReduced(l, allReds[i%5]), api.OK)
	}
}

func TestReducedOfMany(t *testing.T) {
	var l []string
	for i := range 6000 { // more than an array has
		l = append(l, quantity.Div("1", quantity.FromInt((i+1)*(i+2))))
	}
	for i, want := range []string{"6000/6001", "1/6001", "1/36006000", "1/2", "6000"} {
		checkReduced(t, l, allReds[i], want, api.OK)
	}
	l = nil
	bottom := new(big.Int).Set(exact(nines).Num())
	for range 500 {
		l = append(l, "1/"+bottom.String(), "-1/"+bottom.String())
		bottom.Sub(bottom, big.NewInt(2))
	}
	checkReduced(t, append(l, "3000"), api.RedMean, short(big.NewRat(3000, 1001)), api.OK)
}

func TestReducedErrors(t *testing.T) {
	for _, red := range notReds {
		for _, l := range [][]string{nil, {""}, {"1", "2"}, {"x"}} {
			checkReduced(t, l, red, "", api.ErrArg)
		}
	}
	for _, red := range allReds {
		for _, x := range notValues {
			for _, l := range [][]string{{x}, {"1", x}, {x, "1"}, {"", "1", x, "2"}} {
				checkReduced(t, l, red, "", api.ErrArg)
			}
		}
	}
}

func TestReduceExamples(t *testing.T) {
	for _, c := range []struct {
		a         api.Array
		axis, red int
		want      api.Array
	}{
		{six(), 0, api.RedSum, of([]int{3}, "5 7 9")}, {six(), 1, api.RedSum, of([]int{2}, "6 15")}, {six(), 1, api.RedMax, of([]int{2}, "3 6")}, {six(), 0, api.RedMean, of([]int{3}, "5/2 7/2 9/2")},
		{of([]int{3}, "1 _ 3"), 0, api.RedMean, of(nil, "2")}, {of([]int{3}, "1 _ 3"), 0, api.RedCount, of(nil, "2")}, {of([]int{2}, "_ _"), 0, api.RedMin, of(nil, "_")},
		{of([]int{0}, ""), 0, api.RedSum, of(nil, "0")}, {of([]int{0}, ""), 0, api.RedMean, of(nil, "_")}, {of([]int{0, 3}, ""), 0, api.RedCount, of([]int{3}, "0 0 0")}, {of([]int{0, 3}, ""), 1, api.RedCount, of([]int{0}, "")},
		{of([]int{1024, 4, 0}, ""), 2, api.RedMax, of([]int{1024, 4}, strings.Repeat("_ ", 4096))}, {of([]int{1024, 1024, 0, 1024}, ""), 0, api.RedSum, of([]int{1024, 0, 1024}, "")},
	} {
		got, errno := array.Reduce(c.a, c.axis, c.red)
		check(t, fmt.Sprintf("Reduce(%s, %d, %d)", show(c.a), c.axis, c.red), got, errno, c.want, api.OK)
	}
}

func TestReduce(t *testing.T) {
	r := newRandom()
	for i := range 3000 {
		a := filled(r, pick(r, someShapes))
		if len(a.Shape) == 0 {
			continue
		}
		axis, red := r.IntN(len(a.Shape)), allReds[i%5]
		want := made(without(a.Shape, axis), func(index []int) string {
			return wantReduced(line(a, axis, slices.Insert(slices.Clone(index), axis, 0), all(a.Shape[axis])), red)
		})
		got, errno := array.Reduce(a, axis, red)
		check(t, fmt.Sprintf("Reduce(%s, %d, %d)", show(a), axis, red), got, errno, want, api.OK)
	}
}

// P6.8

func TestWindowExamples(t *testing.T) {
	for _, c := range []struct {
		a            api.Array
		axis, red, n int
		want         string
	}{
		{of([]int{3}, "1 2 3"), 0, api.RedSum, 2, "1 3 5"}, {of([]int{3}, "1 2 3"), 0, api.RedSum, 1, "1 2 3"}, {of([]int{3}, "1 2 3"), 0, api.RedSum, 3, "1 3 6"}, {of([]int{3}, "1 2 3"), 0, api.RedSum, 4, "1 3 6"},
		{of([]int{3}, "1 2 3"), 0, api.RedMean, math.MaxInt, "1 3/2 2"}, {six(), 0, api.RedMin, 1 << 62, "1 2 3 1 2 3"}, {six(), 1, api.RedMin, 2, "1 1 2 4 4 5"}, {six(), 0, api.RedSum, 2, "1 2 3 5 7 9"},
		{of([]int{4}, "_ 5 _ _"), 0, api.RedMax, 2, "_ 5 5 _"}, {of([]int{4}, "_ 5 _ _"), 0, api.RedCount, 2, "0 1 1 0"}, {of([]int{0}, ""), 0, api.RedSum, 2, ""}, {of([]int{1024, 1024, 0}, ""), 1, api.RedSum, 2, ""},
	} {
		got, errno := array.Window(c.a, c.axis, c.red, c.n)
		check(t, fmt.Sprintf("Window(%s, %d, %d, %d)", show(c.a), c.axis, c.red, c.n), got, errno, of(c.a.Shape, c.want), api.OK)
	}
}

func TestWindow(t *testing.T) {
	r := newRandom()
	for i := range 3000 {
		a := filled(r, pick(r, someShapes))
		if len(a.Shape) == 0 {
			continue
		}
		axis, red, n := r.IntN(len(a.Shape)), allReds[i%5], 1+r.IntN(6)
		want := made(a.Shape, func(index []int) string {
			var at []int
			for back := range n {
				if position := index[axis] - back; position >= 0 {
					at = append(at, position)
				}
			}
			return wantReduced(line(a, axis, index, at), red)
		})
		got, errno := array.Window(a, axis, red, n)
		check(t, fmt.Sprintf("Window(%s, %d, %d, %d)", show(a), axis, red, n), got, errno, want, api.OK)
	}
}

func TestGroupExamples(t *testing.T) {
	for _, c := range []struct {
		a         api.Array
		axis, red int
		groups    [][]int
		want      api.Array
	}{
		{six(), 1, api.RedSum, [][]int{{2, 0}, nil, {1}, {1}}, of([]int{2, 4}, "4 0 2 2 10 0 5 5")}, {six(), 0, api.RedMax, [][]int{{0}, {1, 0}}, of([]int{2, 3}, "1 2 3 4 5 6")},
		{six(), 1, api.RedMin, nil, of([]int{2, 0}, "")}, {six(), 1, api.RedMin, [][]int{{}}, of([]int{2, 1}, "_ _")}, {of([]int{0}, ""), 0, api.RedSum, [][]int{nil, nil}, of([]int{2}, "0 0")},
		{of([]int{0, 3}, ""), 1, api.RedSum, make([][]int, 1024), of([]int{0, 1024}, "")}, {of([]int{4}, "1 2 3 4"), 0, api.RedCount, make([][]int, 1024), of([]int{1024}, strings.Repeat("0 ", 1024))},
		{of([]int{1024, 1024, 5, 0}, ""), 2, api.RedSum, make([][]int, 1024), of([]int{1024, 1024, 1024, 0}, "")},
	} {
		got, errno := array.Group(c.a, c.axis, c.red, c.groups)
		check(t, fmt.Sprintf("Group(%s, %d, %d, %.100v)", show(c.a), c.axis, c.red, c.groups), got, errno, c.want, api.OK)
	}
}

// someGroups returns groups of positions of a dimension.
func someGroups(r *rand.Rand, size int) [][]int {
	groups := make([][]int, r.IntN(5))
	for k := range groups {
		groups[k] = r.Perm(size)[:r.IntN(size+1)]
	}
	return groups
}

func TestGroup(t *testing.T) {
	r := newRandom()
	for i := range 3000 {
		a := filled(r, pick(r, someShapes))
		if len(a.Shape) == 0 {
			continue
		}
		axis, red := r.IntN(len(a.Shape)), allReds[i%5]
		groups := someGroups(r, a.Shape[axis])
		want := made(with(a.Shape, axis, len(groups)), func(index []int) string {
			return wantReduced(line(a, axis, index, groups[index[axis]]), red)
		})
		got, errno := array.Group(a, axis, red, groups)
		check(t, fmt.Sprintf("Group(%s, %d, %d, %v)", show(a), axis, red, groups), got, errno, want, api.OK)
	}
}

// tryAlong calls the three functions that reduce along an axis.
func tryAlong(t *testing.T, name string, a api.Array, axis, red, n int, groups [][]int, want api.Errno) {
	t.Helper()
	got, errno := array.Reduce(a, axis, red)
	refused(t, "Reduce "+name, got, errno, want)
	got, errno = array.Window(a, axis, red, n)
	refused(t, "Window "+name, got, errno, want)
	got, errno = array.Group(a, axis, red, groups)
	refused(t, "Group "+name, got, errno, want)
}

// badGroups returns groups that do not fit a dimension with the size 3.
func badGroups() [][][]int {
	return [][][]int{
		{{3}}, {{-1}}, {{1, 1}}, {{0, 1, 2, 0}}, {{0}, {1}, {2, 1, 2}}, {{0}, {math.MaxInt}}, {nil, {0, math.MinInt}}, {{0, 1, 2, 3}}, {{2, 2}, nil}, {make([]int, 5000)},
		append(make([][]int, 5000), []int{3}), append([][]int{{1, 1}}, make([][]int, 5000)...),
	}
}

func TestAlongErrors(t *testing.T) {
	good := [][]int{{0}}
	for _, bad := range badArrays() {
		for _, axis := range []int{0, -1, 9} {
			for _, red := range []int{api.RedSum, 0} {
				tryAlong(t, "of a bad array", bad, axis, red, 1, good, api.ErrShape)
				tryAlong(t, "of a bad array", bad, axis, red, 0, [][]int{{-1}}, api.ErrShape)
			}
		}
	}
	for _, axis := range []int{math.MinInt, -2, -1, 2, 3, math.MaxInt} {
		tryAlong(t, "along no axis", six(), axis, api.RedSum, 1, good, api.ErrArg)
		tryAlong(t, "along no axis", six(), axis, 0, 0, badGroups()[0], api.ErrArg)
	}
	for _, axis := range []int{-1, 0, 1} {
		tryAlong(t, "of one", of(nil, "1"), axis, api.RedSum, 1, nil, api.ErrArg)
	}
	for _, red := range notReds {
		tryAlong(t, "by no reduction", six(), 1, red, 1, good, api.ErrArg)
		tryAlong(t, "by no reduction of nothing", of([]int{0, 0}, ""), 1, red, 1, nil, api.ErrArg)
	}
	// ErrArg stands before the error of the result's shape.
	tryAlong(t, "by no reduction to too much", of([]int{1024, 1024, 0}, ""), 2, 0, 0, make([][]int, 1025), api.ErrArg)
}

func TestWindowErrors(t *testing.T) {
	for _, n := range []int{0, -1, math.MinInt} {
		for _, a := range []api.Array{six(), of([]int{0, 0}, "")} {
			got, errno := array.Window(a, 1, api.RedSum, n)
			refused(t, fmt.Sprintf("Window of %d", n), got, errno, api.ErrArg)
		}
	}
}

func TestGroupErrors(t *testing.T) {
	for _, groups := range badGroups() {
		for _, a := range []api.Array{six(), of([]int{0, 3}, "")} {
			got, errno := array.Group(a, 1, api.RedSum, groups)
			refused(t, fmt.Sprintf("Group by %.100v", groups), got, errno, api.ErrArg)
		}
	}
	got, errno := array.Group(of([]int{0}, ""), 0, api.RedSum, [][]int{{0}})
	refused(t, "Group of nothing", got, errno, api.ErrArg)
	for _, c := range []struct {
		a    api.Array
		axis int
		n    int
	}{{six(), 1, 1025}, {six(), 0, 1025}, {of([]int{0, 0}, ""), 0, 1025}, {of([]int{5, 1}, "1 2 3 4 5"), 1, 1000}, {of([]int{1024, 1024, 0}, ""), 2, 1}, {six(), 1, 100000}} {
		got, errno := array.Group(c.a, c.axis, api.RedSum, make([][]int, c.n))
		refused(t, fmt.Sprintf("Group of %v to %d", c.a.Shape, c.n), got, errno, api.ErrShape)
	}
}

func TestReduceToTooMuch(t *testing.T) {
	for _, c := range []struct {
		shape []int
		axis  int
	}{{[]int{0, 64, 65}, 0}, {[]int{5, 0, 1024}, 1}, {[]int{1024, 1024, 0}, 2}, {[]int{1024, 1024, 1024, 0}, 3}} {
		if t.Failed() { // the larger shapes might need much memory
			return
		}
		for _, red := range allReds {
			got, errno := array.Reduce(api.Array{Shape: c.shape}, c.axis, red)
			refused(t, fmt.Sprintf("Reduce of %v", c.shape), got, errno, api.ErrShape)
		}
	}
}
