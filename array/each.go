package array

import (
	"slices"

	"arrayarchive/api"
	"arrayarchive/quantity"
)

// The operations on two elements.
const (
	opAdd = iota + 1
	opSub
	opMul
	opDiv
	opLesser
	opGreater
	opEqual
	opLess
	opNotGreater
	opElse
)

// operation returns the operation with a number, or nil.
func operation(op int) func(x, y string) string {
	switch op {
	case opAdd:
		return quantity.Add
	case opSub:
		return quantity.Sub
	case opMul:
		return quantity.Mul
	case opDiv:
		return quantity.Div
	case opLesser:
		return chosen(func(order int) bool { return order < 0 })
	case opGreater:
		return chosen(func(order int) bool { return order > 0 })
	case opEqual:
		return tested(func(order int) bool { return order == 0 })
	case opLess:
		return tested(func(order int) bool { return order < 0 })
	case opNotGreater:
		return tested(func(order int) bool { return order <= 0 })
	case opElse:
		return otherwise
	}
	return nil
}

// chosen makes an operation that returns its first number if the order of both is a certain one, and otherwise the second one.
func chosen(first func(order int) bool) func(x, y string) string {
	return func(x, y string) string {
		order, ok := quantity.Compare(x, y)
		switch {
		case !ok:
			return ""
		case first(order):
			return x
		}
		return y
	}
}

// tested makes an operation that returns 1 if the order of both numbers is a certain one, and otherwise 0.
func tested(is func(order int) bool) func(x, y string) string {
	return func(x, y string) string {
		order, ok := quantity.Compare(x, y)
		switch {
		case !ok:
			return ""
		case is(order):
			return "1"
		}
		return "0"
	}
}

func otherwise(x, y string) string {
	if x != "" {
		return x
	}
	return y
}

// Each returns the array of the results of an operation on the elements of a and b with the same index.
func Each(a, b api.Array, op int) (api.Array, api.Errno) {
	if !Valid(a) || !Valid(b) {
		return api.Array{}, api.ErrShape
	}
	apply := operation(op)
	if apply == nil {
		return api.Array{}, api.ErrArg
	}
	if !slices.Equal(a.Shape, b.Shape) {
		return api.Array{}, api.ErrShape
	}
	out := copied(a)
	for place, y := range b.Vals {
		out.Vals[place] = apply(a.Vals[place], y)
	}
	return out, api.OK
}
