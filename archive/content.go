package archive

import (
	"iter"
	"slices"

	"arrayarchive/api"
	"arrayarchive/array"
	"arrayarchive/schema"
)

// Formats of an archive, which are the versions of the encoding of its schema.
const (
	oldFormat = 1
	newFormat = 2
)

// place says where a variable is.
type place struct {
	path, name string
}

// record is what an archive keeps of a variable beside the schema and the values.
type record struct {
	id, count int
	note      []byte
}

// content is what an archive has, but for the values. A committed one is not changed any more, as an archive and its views share it.
type content struct {
	format  int
	schema  api.Schema
	given   int // ids
	records map[place]record
}

// variable is a variable with all that a content has of it.
type variable struct {
	api.Var
	record
	path string
}

// variables returns an iterator over the variables in the order of groups and variables.
func (c content) variables() iter.Seq[variable] {
	return func(yield func(variable) bool) {
		for _, g := range c.schema.Groups {
			for _, v := range g.Vars {
				if !yield(variable{v, c.records[place{g.Path, v.Name}], g.Path}) {
					return
				}
			}
		}
	}
}

// find returns a variable, and ErrNone if there is none.
func (c content) find(path, name string) (variable, api.Errno) {
	for v := range c.variables() {
		if v.path == path && v.Name == name {
			return v, api.OK
		}
	}
	return variable{}, api.ErrNone
}

func (c content) shape(v variable) []int {
	shape, _ := schema.Shape(c.schema, v.path, v.Name)
	return shape
}

// possible returns an iterator over the chunks of all variables, whether or not they are there: by variables, and then in row-major order.
func (c content) possible() iter.Seq2[variable, []int] {
	return func(yield func(variable, []int) bool) {
		for v := range c.variables() {
			indexes, _ := array.Chunks(c.shape(v), v.Chunks)
			for _, index := range indexes {
				if !yield(v, index) {
					return
				}
			}
		}
	}
}

// schemaCopy returns the schema in memory of its own.
func (c content) schemaCopy() api.Schema {
	// Its encoding shares nothing with it, and the new format has room for every schema.
	b, _ := schema.Encode(c.schema, newFormat)
	s, _, _ := schema.Decode(b)
	return s
}

// count returns the count of a variable.
func (c content) count(path, name string) (int, api.Errno) {
	v, errno := c.find(path, name)
	return v.count, errno
}

// note returns the note of a variable.
func (c content) note(path, name string) ([]byte, api.Errno) {
	v, errno := c.find(path, name)
	return slices.Clone(v.note), errno
}
