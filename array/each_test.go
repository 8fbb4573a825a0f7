package array_test

import (
	"fmt"
	"math"
	"math/big"
	"testing"

	"arrayarchive/api"
	"arrayarchive/array"
)

// wantOf returns the result of an operation on two values.
func wantOf(op int, x, y string) string {
	if op == 10 {
		if x == "" {
			return y
		}
		return x
	}
	if x == "" || y == "" {
		return ""
	}
	a, b := exact(x), exact(y)
	switch {
	case op == 1:
		return short(new(big.Rat).Add(a, b))
	case op == 2:
		return short(new(big.Rat).Sub(a, b))
	case op == 3:
		return short(new(big.Rat).Mul(a, b))
	case op == 4 && b.Sign() == 0:
		return ""
	case op == 4:
		return short(new(big.Rat).Quo(a, b))
	case op == 5 && a.Cmp(b) > 0, op == 6 && a.Cmp(b) < 0:
		return y
	case op == 5, op == 6:
		return x
	case op == 7 && a.Cmp(b) == 0, op == 8 && a.Cmp(b) < 0, op == 9 && a.Cmp(b) <= 0:
		return "1"
	}
	return "0"
}

// P6.5

func TestEachExamples(t *testing.T) {
	a, b := of([]int{6}, "1 2 _ 1/2 -3 _"), of([]int{6}, "2 2 3 0 _ _")
	for op, want := range []string{
		1: "3 4 _ 1/2 _ _", 2: "-1 0 _ 1/2 _ _", 3: "2 4 _ 0 _ _", 4: "1/2 1 _ _ _ _", 5: "1 2 _ 0 _ _", 6: "2 2 _ 1/2 _ _",
		7: "0 1 _ 0 _ _", 8: "1 0 _ 0 _ _", 9: "1 1 _ 0 _ _", 10: "1 2 3 1/2 -3 _",
	} {
		if op > 0 {
			got, errno := array.Each(a, b, op)
			check(t, fmt.Sprintf("operation %d", op), got, errno, of([]int{6}, want), api.OK)
		}
	}
	long := of([]int{2}, nines+" 1/"+nines)
	for op, want := range []string{1: "_ 2/" + nines, 2: "0 0", 3: "_ _", 4: "1 1", 7: "1 1"} {
		if want != "" {
			got, errno := array.Each(long, long, op)
			check(t, fmt.Sprintf("operation %d on long numbers", op), got, errno, of([]int{2}, want), api.OK)
		}
	}
}

func TestEach(t *testing.T) {
	r := newRandom()
	for i := range 3000 {
		a := filled(r, pick(r, someShapes))
		b := filled(r, a.Shape)
		if r.IntN(4) == 0 { // equal elements
			copy(b.Vals, a.Vals)
		}
		op := i%10 + 1
		want := made(a.Shape, func(index []int) string { return wantOf(op, the(a, index), the(b, index)) })
		got, errno := array.Each(a, b, op)
		check(t, fmt.Sprintf("Each(%s, %s, %d)", show(a), show(b), op), got, errno, want, api.OK)
	}
}

func TestEachErrors(t *testing.T) {
	notOps := []int{math.MinInt, -1, 0, 11, 12, math.MaxInt}
	for _, bad := range badArrays() {
		for _, op := range []int{1, 10, 0, 11} {
			for _, b := range []api.Array{six(), of(nil, "1"), bad} {
				got, errno := array.Each(bad, b, op)
				refused(t, "Each of a bad array", got, errno, api.ErrShape)
				got, errno = array.Each(b, bad, op)
				refused(t, "Each with a bad array", got, errno, api.ErrShape)
			}
		}
	}
	others := []api.Array{of([]int{6}, "1 2 3 4 5 6"), of([]int{3, 2}, "1 2 3 4 5 6"), of([]int{2, 3, 1}, "1 2 3 4 5 6"), of([]int{1, 2, 3}, "1 2 3 4 5 6"), of(nil, "1"), of([]int{1, 1}, "1"), of([]int{2}, "1 2"), of([]int{0, 3}, "")}
	for _, b := range append(others, six()) {
		for _, op := range notOps {
			got, errno := array.Each(six(), b, op)
			refused(t, fmt.Sprintf("operation %d", op), got, errno, api.ErrArg)
		}
	}
	for _, b := range others {
		for op := 1; op <= 10; op++ {
			got, errno := array.Each(six(), b, op)
			refused(t, "Each with another shape", got, errno, api.ErrShape)
			got, errno = array.Each(b, six(), op)
			refused(t, "Each of another shape", got, errno, api.ErrShape)
		}
	}
	got, errno := array.Each(of([]int{0, 3}, ""), of([]int{3, 0}, ""), 1)
	refused(t, "Each of other nothing", got, errno, api.ErrShape)
}
