package calc

import (
	"slices"

	"arrayarchive/api"
	"arrayarchive/array"
	"arrayarchive/calendar"
	"arrayarchive/quantity"
	"arrayarchive/schema"
)

// world is what an expression is about.
type world struct {
	schema api.Schema
	data   map[variable]api.Array
	whole  bool // whether the data of all variables of the expression are needed
}

// newWorld returns the world of a schema and its data, or panics with their error.
func newWorld(s api.Schema, data []api.Data, whole bool) *world {
	if !schema.Valid(s) {
		panic(api.ErrSchema)
	}
	w := world{schema: s, data: map[variable]api.Array{}, whole: whole}
	for _, d := range data {
		v := variable{d.Path, d.Name}
		shape, errno := schema.Shape(s, d.Path, d.Name)
		_, twice := w.data[v]
		if errno != api.OK || twice || !array.Valid(d.A) || !slices.Equal(d.A.Shape, shape) {
			panic(api.ErrShape)
		}
		w.data[v] = d.A
	}
	return &w
}

// times returns the calendar and the values of the coordinate of a dimension's origin.
func (w *world) times(d dimension) (int, []string) {
	path, errno := schema.Coordinate(w.schema, d.group, d.name)
	if errno != api.OK {
		panic(api.ErrTime)
	}
	v := checked(schema.Find(w.schema, path, d.name))
	cal, ok := calendarOf(v)
	values, there := w.data[variable{path, d.name}]
	if v.Type == api.TypeNum || !ok || !there {
		panic(api.ErrTime)
	}
	return cal, values.Vals
}

// calendarOf returns the calendar that an attribute of a variable names, and whether there is one.
func calendarOf(v api.Var) (int, bool) {
	for _, a := range v.Attrs {
		if a.Name == "calendar" && a.Kind == api.AttrText {
			return calendar.Find(a.Text)
		}
	}
	return 0, false
}

// groups returns the positions of a dimension in groups by the dates of its origin.
func (w *world) groups(d dimension, field int, cyclic bool) [][]int {
	if d.group == "" {
		panic(api.ErrTime)
	}
	cal, times := w.times(d)
	numbers := make([]int, d.size)
	for i, position := range d.origin {
		n, ok := quantity.Int(times[position])
		if !ok {
			panic(api.ErrTime)
		}
		numbers[i] = n
	}
	_, groups, errno := calendar.Groups(cal, numbers, field, cyclic)
	if errno != api.OK {
		panic(api.ErrTime)
	}
	return groups
}
