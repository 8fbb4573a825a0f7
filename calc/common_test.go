package calc_test

import (
	"fmt"
	"math/rand/v2"
	"slices"
	"strings"
	"testing"

	"arrayarchive/api"
	"arrayarchive/quantity"
	"arrayarchive/schema"
)

var nines = strings.Repeat("9", api.MaxDigits)

func newRandom() *rand.Rand {
	return rand.New(rand.NewPCG(7, 77))
}

func pick[T any](r *rand.Rand, l []T) T {
	return l[r.IntN(len(l))]
}

// worldText describes a world in which each kind of error occurs: /g has a t of its own, z has no element, month is named like a field, x has no coordinate.
const worldText = `group /
dim month 2
dim t 5
dim x 3
dim z 0
var a num ( t x ) ( 2 2 ) none ""
var b num ( x ) ( 2 ) none ""
var c num ( ) ( ) none "degC"
var d num ( x ) ( 1 ) none "km"
var f num ( x ) ( 3 ) none "degF"
var k num ( t ) ( 2 ) none "m"
var o num ( month x ) ( 1 2 ) none ""
var q num ( z x ) ( 1 1 ) none ""
var s num ( t ) ( 5 ) none "s"
var t i32 ( t ) ( 3 ) none ""
vattr calendar "noleap"
var v i16 ( t ) ( 2 ) none ""
var w num ( x t ) ( 1 3 ) none ""
var z i32 ( z ) ( 4 ) none ""
vattr calendar "360day"
group /g
dim t 5
dim y 2
var a num ( t y ) ( 2 1 ) none ""
var k num ( y ) ( 7 ) none "m"
var t i64 ( t ) ( 1 ) none ""
vattr calendar "gregorian"
group /g/h
var b num ( y t x ) ( 1 2 2 ) none ""
var u num ( ) ( ) none ""
`

// schemaOf returns the schema with a text.
func schemaOf(t *testing.T, text string) api.Schema {
	t.Helper()
	s, errno := schema.Parse(text)
	if errno != api.OK {
		t.Fatalf("error %d of a schema", errno)
	}
	return s
}

// someValue returns a value, which may be missing, or so great that operations on it are too long.
func someValue(r *rand.Rand) string {
	switch r.IntN(12) {
	case 0:
		return ""
	case 1:
		return pick(r, []string{nines, "-" + nines, "1/" + nines, "1" + strings.Repeat("0", api.MaxDigits-1)})
	case 2, 3:
		return quantity.Div(fmt.Sprint(r.IntN(41)-20), fmt.Sprint(r.IntN(6)+1))
	}
	return fmt.Sprint(r.IntN(9) - 4)
}

// someTime returns a day number within some years.
func someTime(r *rand.Rand) string {
	if r.IntN(60) == 0 {
		return pick(r, []string{"", "1/2", "9007199254740993", "4000000"})
	}
	return fmt.Sprint(r.IntN(1200) - 300)
}

// someData returns data of all variables of a schema.
func someData(r *rand.Rand, s api.Schema) []api.Data {
	var list []api.Data
	for _, g := range s.Groups {
		for _, v := range g.Vars {
			shape, _ := schema.Shape(s, g.Path, v.Name)
			a := api.Array{Shape: shape}
			for range product(shape) {
				if len(v.Attrs) > 0 {
					a.Vals = append(a.Vals, someTime(r))
				} else {
					a.Vals = append(a.Vals, someValue(r))
				}
			}
			list = append(list, api.Data{Path: g.Path, Name: v.Name, A: a})
		}
	}
	return list
}

func product(l []int) int {
	p := 1
	for _, n := range l {
		p *= n
	}
	return p
}

// indexesOf returns the indexes of a shape in row-major order.
func indexesOf(shape []int) [][]int {
	var list [][]int
	for place := range product(shape) {
		index := make([]int, len(shape))
		for k := len(shape) - 1; k >= 0; k-- {
			index[k] = place % shape[k]
			place /= shape[k]
		}
		list = append(list, index)
	}
	return list
}

// someSlab returns a slab of a shape.
func someSlab(r *rand.Rand, shape []int) []api.Cut {
	slab := make([]api.Cut, len(shape))
	for k, size := range shape {
		c := api.Cut{Start: r.IntN(size + 1), Step: r.IntN(3) + 1}
		if r.IntN(20) > 0 {
			c.Count = r.IntN((size-c.Start+c.Step-1)/c.Step + 1)
		}
		if c.Count == 0 && size > 0 && r.IntN(4) > 0 {
			c = api.Cut{Count: size, Step: 1}
		}
		slab[k] = c
	}
	return slab
}

// shapeOf returns the shape of a slab.
func shapeOf(slab []api.Cut) []int {
	shape := make([]int, len(slab))
	for k, c := range slab {
		shape[k] = c.Count
	}
	return shape
}

// inSlab returns the index of the whole array that an index within a slab means.
func inSlab(slab []api.Cut, index []int) []int {
	whole := make([]int, len(slab))
	for k, c := range slab {
		whole[k] = c.Start + index[k]*c.Step
	}
	return whole
}

func sameArray(a, b api.Array) bool {
	return slices.Equal(a.Shape, b.Shape) && slices.Equal(a.Vals, b.Vals)
}

func sameShaped(a, b api.Shaped) bool {
	return slices.Equal(a.Dims, b.Dims) && slices.Equal(a.Sizes, b.Sizes) && a.Unit == b.Unit
}

func sameChunks(a, b []api.Chunk) bool {
	return slices.EqualFunc(a, b, func(x, y api.Chunk) bool {
		return x.Path == y.Path && x.Name == y.Name && slices.Equal(x.Index, y.Index)
	})
}

// showArray returns a short text of an array.
func showArray(a api.Array) string {
	return fmt.Sprintf("%v %.300q", a.Shape, strings.Join(a.Vals, ","))
}

// of returns an array with the values of a text, with single spaces between them and _ for a missing one.
func of(shape []int, text string) api.Array {
	a := api.Array{Shape: shape}
	for word := range strings.FieldsSeq(text) {
		a.Vals = append(a.Vals, strings.TrimPrefix(word, "_"))
	}
	return a
}

// unitOf returns the unit of a text that has one.
func unitOf(t *testing.T, text string) api.Unit {
	t.Helper()
	u, errno := quantity.ParseUnit(text)
	if errno != api.OK {
		t.Fatalf("error %d of the unit %q", errno, text)
	}
	return u
}
