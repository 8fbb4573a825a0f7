package array_test

import (
	"fmt"
	"math"
	"math/big"
	"math/rand/v2"
	"slices"
	"strconv"
	"strings"
	"testing"

	"arrayarchive/api"
)

var nines = strings.Repeat("9", api.MaxDigits)

var (
	notValues  = []string{"x", "-0", "01", "1.0", "2/4", "4/2", "1/1", "1/0", "+1", " ", "1 ", "-", "/", "1/-2", "\x00", nines + "0", "-1" + nines, "1/1" + nines, strings.Repeat("1", 5000)}
	someShapes = [][]int{nil, {}, {0}, {1}, {7}, {2, 3}, {3, 0}, {0, 3}, {1, 5}, {2, 3, 4}, {2, 0, 2}, {1, 1, 1}, {2, 3, 2, 3}, {1, 4, 1, 2}, {3, 1, 2, 0}}
	badShapes  = [][]int{{-1}, {1025}, {math.MaxInt}, {math.MinInt}, {-1, -1}, {2, -3}, {65, 64}, {64, 65}, {1, 4097}, {4, 1024, 2}, {1024, 1024}, {1, 1, 1, 1, 1}, {0, 0, 0, 0, 0}, {1025, 0}, {0, 1025}, {0, -1}, {1 << 62, 4}, {1 << 62, 0}, {1 << 32, 1 << 32}, {1 << 16, 1 << 16, 1 << 16, 1 << 16}, {1024, 1024, 1024, 1024}, make([]int, 1000)}
	allReds    = []int{api.RedSum, api.RedMean, api.RedMin, api.RedMax, api.RedCount}
	notReds    = []int{math.MinInt, -1, 0, 6, 7, math.MaxInt}
)

func newRandom() *rand.Rand {
	return rand.New(rand.NewPCG(6, 66))
}

func pick[T any](r *rand.Rand, l []T) T {
	return l[r.IntN(len(l))]
}

// of returns an array with the values of a text, with single spaces between them and _ for a missing one.
func of(shape []int, text string) api.Array {
	a := api.Array{Shape: shape}
	for word := range strings.FieldsSeq(text) {
		a.Vals = append(a.Vals, strings.TrimPrefix(word, "_"))
	}
	return a
}

// six returns the array with the shape (2, 3) and the values 1 to 6.
func six() api.Array {
	return of([]int{2, 3}, "1 2 3 4 5 6")
}

// badArrays returns arrays that are not valid.
func badArrays() []api.Array {
	l := []api.Array{{}, of([]int{0}, "1"), of([]int{2, 3}, "1 2 3 4 5"), of([]int{2, 3}, "1 2 3 4 5 6 7"), of([]int{2, 3}, ""), of(nil, "1 2"), of([]int{-2, -3}, "1 2 3 4 5 6")}
	for _, shape := range badShapes {
		l = append(l, api.Array{Shape: shape}, of(shape, "1"))
	}
	for i, x := range notValues {
		a := six()
		a.Vals[i%6] = x
		l = append(l, a)
	}
	return l
}

// show returns a short text of an array.
func show(a api.Array) string {
	return fmt.Sprintf("%.100s %.200s", fmt.Sprint(a.Shape), fmt.Sprintf("%q", a.Vals))
}

// check compares an array and an error code with what they should be; with an error the array is zero.
func check(t *testing.T, name string, a api.Array, errno api.Errno, want api.Array, wantErrno api.Errno) {
	t.Helper()
	if errno != wantErrno || !slices.Equal(a.Shape, want.Shape) || !slices.Equal(a.Vals, want.Vals) {
		t.Errorf("%.200s: %s, error %d, want %s, error %d", name, show(a), errno, show(want), wantErrno)
	}
}

// refused checks that there is only this error.
func refused(t *testing.T, name string, a api.Array, errno, wantErrno api.Errno) {
	t.Helper()
	check(t, name, a, errno, api.Array{}, wantErrno)
}

// checkIndexes does the same for lists of indexes.
func checkIndexes(t *testing.T, name string, l [][]int, errno api.Errno, want [][]int, wantErrno api.Errno) {
	t.Helper()
	if errno != wantErrno || !slices.EqualFunc(l, want, slices.Equal) {
		t.Errorf("%.200s: %v, error %d, want %v, error %d", name, l, errno, want, wantErrno)
	}
}

// The model: arrays as functions of indexes, and exact numbers of package big.

// allIndexes returns the indexes of a shape in row-major order.
func allIndexes(shape []int) [][]int {
	if len(shape) == 0 {
		return [][]int{{}}
	}
	var l [][]int
	for i := range shape[0] {
		if slices.Contains(shape[1:], 0) {
			break
		}
		for _, rest := range allIndexes(shape[1:]) {
			l = append(l, append([]int{i}, rest...))
		}
	}
	return l
}

// the returns the element of an array with an index.
func the(a api.Array, index []int) string {
	place, distance := 0, 1
	for k := len(index) - 1; k >= 0; k-- {
		place += index[k] * distance
		distance *= a.Shape[k]
	}
	return a.Vals[place]
}

// made returns the array of a shape with the elements that a function gives.
func made(shape []int, f func(index []int) string) api.Array {
	a := api.Array{Shape: slices.Clone(shape)}
	for _, index := range allIndexes(shape) {
		a.Vals = append(a.Vals, f(index))
	}
	return a
}

// with returns a list with another item at a place.
func with(l []int, at, item int) []int {
	out := slices.Clone(l)
	out[at] = item
	return out
}

// without returns a list without an item.
func without(l []int, at int) []int {
	return slices.Delete(slices.Clone(l), at, at+1)
}

func exact(x string) *big.Rat {
	n, ok := new(big.Rat).SetString(x)
	if !ok {
		panic(x)
	}
	return n
}

// short returns the text of a number, or the missing value if it is too long.
func short(n *big.Rat) string {
	if len(strings.TrimPrefix(n.Num().String(), "-")) > api.MaxDigits || len(n.Denom().String()) > api.MaxDigits {
		return ""
	}
	return n.RatString()
}

// wantReduced returns the reduction of a list of values.
func wantReduced(l []string, red int) string {
	var numbers []*big.Rat
	sum := new(big.Rat)
	for _, x := range l {
		if x != "" {
			numbers = append(numbers, exact(x))
			sum.Add(sum, exact(x))
		}
	}
	slices.SortFunc(numbers, (*big.Rat).Cmp)
	n := len(numbers)
	switch {
	case red == api.RedSum:
		return short(sum)
	case red == api.RedCount:
		return strconv.Itoa(n)
	case n == 0:
		return ""
	case red == api.RedMean:
		return short(sum.Quo(sum, big.NewRat(int64(n), 1)))
	case red == api.RedMin:
		return short(numbers[0])
	}
	return short(numbers[n-1])
}

// sample returns a value: some are missing, and some so long that operations on them are missing.
func sample(r *rand.Rand) string {
	switch r.IntN(12) {
	case 0, 1:
		return ""
	case 2:
		return pick(r, []string{nines, "-" + nines, "1/" + nines, "-1/" + nines, "0", "18446744073709551616", "-18446744073709551617/2"})
	case 3, 4, 5:
		return big.NewRat(int64(r.IntN(41)-20), int64(1+r.IntN(6))).RatString()
	}
	return strconv.Itoa(r.IntN(21) - 10)
}

func samples(r *rand.Rand, n int) []string {
	l := make([]string, n)
	for i := range l {
		l[i] = sample(r)
	}
	return l
}

// filled returns an array with samples.
func filled(r *rand.Rand, shape []int) api.Array {
	return made(shape, func(index []int) string { return sample(r) })
}

// someSlab returns a slab of a shape.
func someSlab(r *rand.Rand, shape []int) []api.Cut {
	slab := make([]api.Cut, len(shape))
	for k, size := range shape {
		c := api.Cut{Start: r.IntN(size + 1), Step: 1 + r.IntN(4)}
		c.Count = r.IntN((size-c.Start+c.Step-1)/c.Step + 1)
		if c.Count < 2 && r.IntN(4) == 0 {
			c.Step = math.MaxInt
		}
		slab[k] = c
	}
	return slab
}

// countsOf returns the shape of a slab.
func countsOf(slab []api.Cut) []int {
	shape := []int{}
	for _, c := range slab {
		shape = append(shape, c.Count)
	}
	return shape
}

// positions returns the positions of a cut.
func positions(c api.Cut) []int {
	var l []int
	for at := c.Start; len(l) < c.Count; at += c.Step {
		l = append(l, at)
	}
	return l
}

// someSizes returns chunk sizes for a shape.
func someSizes(r *rand.Rand, shape []int) []int {
	sizes := make([]int, len(shape))
	for k, size := range shape {
		sizes[k] = 1 + r.IntN(size+2)
	}
	return sizes
}
