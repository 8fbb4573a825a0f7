package lab

import (
	"iter"
	"slices"
	"strings"

	"arrayarchive/api"
	"arrayarchive/archive"
	"arrayarchive/calc"
	"arrayarchive/quantity"
	"arrayarchive/schema"
)

// content is the committed content of an archive, whose values are read when they are needed.
type content struct {
	archive *archive.Archive
	schema  api.Schema
}

func (l *Lab) content() (content, api.Errno) {
	s, errno := l.Archive().Schema()
	return content{l.Archive(), s}, errno
}

// derived is a derived variable, with what its note says.
type derived struct {
	api.Var
	path string
	says api.Derived
}

// variables returns an iterator over the paths of all variables, and these, in the order of groups and variables.
func (c content) variables() iter.Seq2[string, api.Var] {
	return func(yield func(string, api.Var) bool) {
		for _, g := range c.schema.Groups {
			for _, v := range g.Vars {
				if !yield(g.Path, v) {
					return
				}
			}
		}
	}
}

// derived returns an iterator over the derived variables in the order of groups and variables.
func (c content) derived() iter.Seq[derived] {
	return func(yield func(derived) bool) {
		for path, v := range c.variables() {
			note, _ := c.archive.Note(path, v.Name)
			if says, ok := parseNote(note); ok && !yield(derived{v, path, says}) {
				return
			}
		}
	}
}

// read returns the values of a variable.
func (c content) read(path, name string) (api.Array, api.Errno) {
	shape, errno := schema.Shape(c.schema, path, name)
	if errno != api.OK {
		return api.Array{}, errno
	}
	return c.archive.Read(path, name, whole(shape))
}

// whole returns the slab of all elements of a shape.
func whole(shape []int) []api.Cut {
	slab := make([]api.Cut, len(shape))
	for k, size := range shape {
		slab[k] = api.Cut{Start: 0, Count: size, Step: 1}
	}
	return slab
}

// mayNeed reports whether an expression that names some variables may need the values of one: of these, and of coordinates by which a group may go.
func mayNeed(text string, names []api.Chunk, path string, v api.Var) bool {
	isNamed := slices.ContainsFunc(names, func(n api.Chunk) bool { return n.Path == path && n.Name == v.Name })
	isCoordinate := len(v.Dims) == 1 && v.Dims[0] == v.Name
	// A group names the dimension along which it goes, which has the name of its coordinate.
	return isNamed || isCoordinate && strings.Contains(text, v.Name)
}

// data returns the variables that an expression may need, but for those that cannot be read.
func (c content) data(text string) []api.Data {
	names, _ := calc.Names(text)
	var l []api.Data
	for path, v := range c.variables() {
		if !mayNeed(text, names, path, v) {
			continue
		}
		if a, errno := c.read(path, v.Name); errno == api.OK {
			l = append(l, api.Data{Path: path, Name: v.Name, A: a})
		}
	}
	return l
}

// value returns the dimensions, the unit and the values of an expression.
func (c content) value(text string) (api.Shaped, api.Array, api.Errno) {
	data := c.data(text)
	shaped, errno := calc.Infer(c.schema, data, text)
	if errno != api.OK {
		return api.Shaped{}, api.Array{}, errno
	}
	a, errno := calc.Value(c.schema, data, text)
	if errno != api.OK {
		return api.Shaped{}, api.Array{}, errno
	}
	return shaped, a, api.OK
}

func noUnit() api.Unit {
	return api.Unit{Factor: "1", Offset: "0"}
}

// unitOf returns the unit of a variable.
func unitOf(v api.Var) api.Unit {
	if v.Unit == "" {
		return noUnit()
	}
	u, _ := quantity.ParseUnit(v.Unit)
	return u
}

// unitText returns the text for a unit of a variable. ErrUnit: the unit is not plain.
func unitText(u api.Unit) (string, api.Errno) {
	if quantity.Same(u, noUnit()) {
		return "", api.OK
	}
	return quantity.FormatUnit(u)
}

// variableFor returns a variable for a result in a group, but for its chunks.
func (c content) variableFor(path, name string, result api.Shaped) (api.Var, api.Errno) {
	unit, errno := unitText(result.Unit)
	if errno != api.OK {
		return api.Var{}, errno
	}
	if !slices.ContainsFunc(c.schema.Groups, func(g api.Group) bool { return g.Path == path }) {
		return api.Var{}, api.ErrNone
	}
	if _, errno := schema.Find(c.schema, path, name); errno == api.OK {
		return api.Var{}, api.ErrExists
	}
	for k, dim := range result.Dims {
		_, d, errno := schema.Resolve(c.schema, path, dim)
		if errno != api.OK || d.Size != result.Sizes[k] {
			return api.Var{}, api.ErrDims
		}
	}
	return api.Var{Name: name, Type: api.TypeNum, Dims: result.Dims, Unit: unit}, api.OK
}

// says returns what the note of a variable says that has the result of an expression now.
func (c content) says(expr string) api.Derived {
	says := api.Derived{Expr: expr}
	names, _ := calc.Names(expr)
	for _, n := range names {
		count, _ := c.archive.Count(n.Path, n.Name)
		says.Sources = append(says.Sources, api.Source{Path: n.Path, Name: n.Name, Version: count})
	}
	return says
}

// put writes the values and the note of a derived variable in the open transaction.
func (c content) put(path, name, expr string, a api.Array) api.Errno {
	if errno := c.archive.Write(path, name, whole(a.Shape), a); errno != api.OK {
		return errno
	}
	return c.archive.SetNote(path, name, noteOf(c.says(expr)))
}

// result returns the values of the result of a derived variable's expression, and whether there is one that fits the variable.
func (c content) result(d derived) (api.Array, bool) {
	result, a, errno := c.value(d.says.Expr)
	shape, _ := schema.Shape(c.schema, d.path, d.Name)
	if errno != api.OK || !slices.Equal(result.Dims, d.Dims) || !slices.Equal(result.Sizes, shape) || !quantity.Same(result.Unit, unitOf(d.Var)) {
		return api.Array{}, false
	}
	return a, true
}

// has reports whether a derived variable can be read, and has the values of a result that fits it.
func (c content) has(d derived, result api.Array) bool {
	a, errno := c.read(d.path, d.Name)
	return errno == api.OK && slices.Equal(a.Vals, result.Vals)
}

// isCurrent reports whether a derived variable can be read, and is current.
func (c content) isCurrent(d derived) bool {
	result, fits := c.result(d)
	return fits && c.has(d, result)
}
