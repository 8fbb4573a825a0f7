package array_test

import (
	"fmt"
	"math"
	"slices"
	"testing"

	"arrayarchive/api"
	"arrayarchive/array"
)

// P6.2

func TestValidShape(t *testing.T) {
	for _, shape := range append(someShapes, [][]int{{1024}, {4, 1024}, {64, 64}, {8, 8, 8, 8}, {1, 1024, 4, 1}, {1024, 0}, {0, 1024}, {1024, 1024, 0}, {1024, 1024, 1024, 0}, {0, 1024, 1024, 1024}, {0, 0, 0, 0}, {17, 240}}...) {
		if !array.ValidShape(shape) {
			t.Errorf("ValidShape(%v) is false", shape)
		}
	}
	for _, shape := range append(badShapes, [][]int{{17, 241}, {8, 8, 8, 9}, {4, 1025}, {1024, 1024, 0, 0, 0}, {-1, 0}, {-64, -64}, {0, math.MinInt}}...) {
		if array.ValidShape(shape) {
			t.Errorf("ValidShape(%v) is true", shape)
		}
	}
}

func TestValid(t *testing.T) {
	r := newRandom()
	for _, shape := range append(someShapes, []int{1024}, []int{64, 64}, []int{1024, 1024, 0}) {
		if a := filled(r, shape); !array.Valid(a) {
			t.Errorf("Valid(%s) is false", show(a))
		}
	}
	for _, a := range []api.Array{of(nil, "_"), of(nil, "-1/2"), of([]int{}, nines), of([]int{2}, "_ _"), {Shape: []int{0}, Vals: []string{}}, {Shape: []int{0, 5}}} {
		if !array.Valid(a) {
			t.Errorf("Valid(%s) is false", show(a))
		}
	}
	for _, a := range badArrays() {
		if array.Valid(a) {
			t.Errorf("Valid(%s) is true", show(a))
		}
	}
}

// Each place of an array is looked at.
func TestValidEverywhere(t *testing.T) {
	for i := range 6 {
		for _, x := range notValues {
			a := six()
			a.Vals[i] = x
			if array.Valid(a) {
				t.Errorf("Valid is true with %.60q at %d", x, i)
			}
		}
	}
}

func TestFill(t *testing.T) {
	for _, shape := range append(someShapes, []int{1024}, []int{64, 64}, []int{1024, 1024, 1024, 0}) {
		for _, v := range []string{"", "0", "-7", "1/2", nines, "-1/" + nines} {
			a, errno := array.Fill(shape, v)
			check(t, fmt.Sprintf("Fill(%v, %q)", shape, v), a, errno, made(shape, func([]int) string { return v }), api.OK)
		}
		for _, v := range notValues {
			a, errno := array.Fill(shape, v)
			refused(t, fmt.Sprintf("Fill(%v, %.60q)", shape, v), a, errno, api.ErrArg)
		}
	}
	for _, shape := range badShapes {
		for _, v := range []string{"", "1", "x"} {
			a, errno := array.Fill(shape, v)
			refused(t, fmt.Sprintf("Fill(%v, %q)", shape, v), a, errno, api.ErrShape)
		}
	}
}

func checkAt(t *testing.T, a api.Array, index []int, want string, wantErrno api.Errno) {
	t.Helper()
	if x, errno := array.At(a, index); x != want || errno != wantErrno {
		t.Errorf("At(%s, %v): %q, error %d, want %q, error %d", show(a), index, x, errno, want, wantErrno)
	}
}

func TestAt(t *testing.T) {
	checkAt(t, six(), []int{1, 0}, "4", api.OK)
	checkAt(t, of([]int{2, 3, 4}, "0 1 2 3 4 5 6 7 8 9 10 11 12 13 14 15 16 17 18 19 20 21 22 23"), []int{1, 2, 1}, "21", api.OK)
	checkAt(t, of([]int{1, 2}, "5 _"), []int{0, 1}, "", api.OK)
	checkAt(t, of(nil, "5"), nil, "5", api.OK)
	checkAt(t, of(nil, "5"), []int{}, "5", api.OK)
	r := newRandom()
	for _, shape := range someShapes {
		a := filled(r, shape)
		for place, index := range allIndexes(shape) {
			checkAt(t, a, index, a.Vals[place], api.OK)
			for k, size := range shape {
				for _, i := range []int{-1, size, size + 1, math.MaxInt, math.MinInt} {
					checkAt(t, a, with(index, k, i), "", api.ErrSlab)
				}
				checkAt(t, a, index[:k], "", api.ErrSlab)
			}
			checkAt(t, a, append(slices.Clone(index), 0), "", api.ErrSlab)
		}
		if slices.Contains(shape, 0) {
			checkAt(t, a, make([]int, len(shape)), "", api.ErrSlab)
		}
	}
	for _, a := range badArrays() {
		for _, index := range [][]int{nil, {0}, {0, 0}, {-1, 5}} {
			checkAt(t, a, index, "", api.ErrShape)
		}
	}
}

// P6.3

func TestResize(t *testing.T) {
	a, errno := array.Resize(six(), []int{3, 2}, "0")
	check(t, "Resize", a, errno, of([]int{3, 2}, "1 2 4 5 0 0"), api.OK)
	a, errno = array.Resize(six(), []int{2, 4}, "")
	check(t, "Resize", a, errno, of([]int{2, 4}, "1 2 3 _ 4 5 6 _"), api.OK)
	a, errno = array.Resize(of(nil, "7"), nil, "0")
	check(t, "Resize of one", a, errno, of(nil, "7"), api.OK)
	a, errno = array.Resize(of([]int{1}, "_"), []int{2}, "0")
	check(t, "Resize keeps a missing value", a, errno, of([]int{2}, "_ 0"), api.OK)
	r := newRandom()
	for range 2000 {
		from := pick(r, someShapes)
		to := make([]int, len(from))
		for k := range to {
			to[k] = r.IntN(6)
		}
		a, v := filled(r, from), pick(r, []string{"", "77", "-1/2"})
		want := made(to, func(index []int) string {
			for k, i := range index {
				if i >= from[k] {
					return v
				}
			}
			return the(a, index)
		})
		got, errno := array.Resize(a, to, v)
		check(t, fmt.Sprintf("Resize(%s, %v)", show(a), to), got, errno, want, api.OK)
	}
}

func TestResizeErrors(t *testing.T) {
	for _, a := range badArrays() {
		for _, shape := range [][]int{{2, 3}, {6}, {-1}} {
			for _, v := range []string{"1", "x"} {
				got, errno := array.Resize(a, shape, v)
				refused(t, "Resize of a bad array", got, errno, api.ErrShape)
			}
		}
	}
	for _, shape := range badShapes {
		for _, v := range []string{"1", "x"} {
			got, errno := array.Resize(six(), shape, v)
			refused(t, "Resize to a bad shape", got, errno, api.ErrShape)
		}
	}
	for _, shape := range [][]int{nil, {6}, {1, 2, 3}, {0}, {2, 3, 0}} {
		got, errno := array.Resize(six(), shape, "1")
		refused(t, "Resize to another rank", got, errno, api.ErrShape)
		for _, v := range notValues {
			got, errno := array.Resize(six(), shape, v)
			refused(t, "Resize to another rank with no value", got, errno, api.ErrArg)
		}
	}
	for _, v := range notValues { // also where no element would be v
		got, errno := array.Resize(six(), []int{1, 1}, v)
		refused(t, "Resize with no value", got, errno, api.ErrArg)
	}
}
