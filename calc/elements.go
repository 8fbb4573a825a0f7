package calc

import (
	"slices"

	"arrayarchive/api"
	"arrayarchive/array"
	"arrayarchive/quantity"
	"arrayarchive/schema"
)

type typedNumber struct {
	*number
	result
	x string
}

func (n *number) infer(w *world) typed {
	x, errno := quantity.Parse(n.digits)
	if errno != api.OK {
		panic(api.ErrExpr)
	}
	return &typedNumber{n, result{unit: noUnit()}, x}
}

func (n *typedNumber) value(chosen region, below []api.Array) api.Array {
	return api.Array{Vals: []string{n.x}}
}

type typedVariable struct {
	*variable
	result
	chunks []int // their sizes
	vals   []string
}

func (n *variable) infer(w *world) typed {
	v := checked(schema.Find(w.schema, n.path, n.name))
	data, there := w.data[*n]
	if w.whole && !there {
		panic(api.ErrNone)
	}
	r := result{unit: noUnit()}
	if v.Unit != "" {
		r.unit = checked(quantity.ParseUnit(v.Unit))
	}
	for _, name := range v.Dims {
		group, d, _ := schema.Resolve(w.schema, n.path, name)
		r.dims = append(r.dims, dimension{name, d.Size, group, span(0, d.Size)})
	}
	return &typedVariable{n, r, v.Chunks, data.Vals}
}

func (n *typedVariable) value(chosen region, below []api.Array) api.Array {
	shape := n.shape()
	out := api.Array{Shape: chosen.shape()}
	for _, index := range chosen.indexes() {
		out.Vals = append(out.Vals, n.vals[placeOf(shape, index)])
	}
	return out
}

type typedNegation struct {
	*negation
	result
}

func (n *negation) infer(w *world) typed {
	of := n.of.infer(w)
	own := of.info()
	if !isPlain(own.unit) {
		panic(api.ErrUnit)
	}
	return &typedNegation{n, result{own.dims, own.unit, []typed{of}}}
}

func (n *typedNegation) value(chosen region, below []api.Array) api.Array {
	return mapped(below[0], func(x string) string { return quantity.Sub("0", x) })
}

// mapped returns the array of what a function makes of each element.
func mapped(a api.Array, function func(string) string) api.Array {
	out := api.Array{Shape: slices.Clone(a.Shape)}
	for _, x := range a.Vals {
		out.Vals = append(out.Vals, function(x))
	}
	return out
}

// converted has the values of the node below in another unit.
type converted struct {
	result
}

// inUnit returns a node with its values in a unit, or panics if it has no such values.
func inUnit(n typed, unit api.Unit) *converted {
	if n.info().unit.Powers != unit.Powers {
		panic(api.ErrMatch)
	}
	return &converted{result{n.info().dims, unit, []typed{n}}}
}

// taken returns a node as it is if it has a unit, and otherwise with its values in this unit.
func taken(n typed, unit api.Unit) typed {
	if quantity.Same(n.info().unit, unit) {
		return n
	}
	return inUnit(n, unit)
}

func (n *converted) value(chosen region, below []api.Array) api.Array {
	from := n.below[0].info().unit
	return mapped(below[0], func(x string) string {
		y, _ := quantity.Convert(x, from, n.unit)
		return y
	})
}

type typedConversion struct {
	*conversion
	converted
}

func (n *conversion) infer(w *world) typed {
	of := n.of.infer(w)
	unit := checked(quantity.ParseUnit(n.target))
	return &typedConversion{n, *inUnit(of, unit)}
}

type typedBare struct {
	*bare
	result
}

func (n *bare) infer(w *world) typed {
	of := n.of.infer(w)
	return &typedBare{n, result{of.info().dims, noUnit(), []typed{of}}}
}

func (n *typedBare) value(chosen region, below []api.Array) api.Array {
	return below[0]
}

type typedPair struct {
	*pair
	result
}

func (n *pair) infer(w *world) typed {
	a := n.a.infer(w)
	b := n.b.infer(w)
	dims := united(a.info().dims, b)
	unit := a.info().unit
	other := b.info().unit
	switch n.word {
	case "*":
		unit = checked(quantity.Times(unit, other))
	case "/":
		unit = checked(quantity.Over(unit, other))
	default:
		b = taken(b, unit)
		unit = n.common(unit, other)
	}
	return &typedPair{n, result{dims, unit, []typed{a, b}}}
}

// common returns the unit of an operation on values with the same powers, or panics with its error.
func (n *pair) common(a, b api.Unit) api.Unit {
	switch n.word {
	case "+", "-":
		if !isPlain(a) || !isPlain(b) {
			panic(api.ErrUnit)
		}
	case "eq", "lt", "le":
		return noUnit()
	}
	return a
}

func (n *typedPair) value(chosen region, below []api.Array) api.Array {
	parts := n.spread(chosen, below)
	out, _ := array.Each(parts[0], parts[1], numberOf(operationWords(), n.word))
	return out
}

type typedChoice struct {
	*choice
	result
}

func (n *choice) infer(w *world) typed {
	test := n.test.infer(w)
	a := n.a.infer(w)
	b := n.b.infer(w)
	dims := united(united(test.info().dims, a), b)
	unit := a.info().unit
	return &typedChoice{n, result{dims, unit, []typed{test, a, taken(b, unit)}}}
}

func (n *typedChoice) value(chosen region, below []api.Array) api.Array {
	parts := n.spread(chosen, below)
	out := api.Array{Shape: chosen.shape()}
	for place, x := range parts[0].Vals {
		switch x {
		case "":
			out.Vals = append(out.Vals, "")
		case "0":
			out.Vals = append(out.Vals, parts[2].Vals[place])
		default:
			out.Vals = append(out.Vals, parts[1].Vals[place])
		}
	}
	return out
}
