package schema

import (
	"slices"

	"arrayarchive/api"
)

// The versions of the binary form.
const (
	versionPlain = 1 // without units and stages
	versionFull  = 2
)

// Encode returns the encoding of a schema in a version.
func Encode(s api.Schema, version int) ([]byte, api.Errno) {
	if !Valid(s) {
		return nil, api.ErrSchema
	}
	if version != versionFull && (version != versionPlain || !isPlain(s)) {
		return nil, api.ErrVersion
	}
	w := writer{[]byte{'A', 'A', byte(version)}, version}
	writeList(&w, s.Groups, (*writer).group)
	return w.bytes, api.OK
}

// isPlain reports whether no variable has a unit or a stage.
func isPlain(s api.Schema) bool {
	return !slices.ContainsFunc(s.Groups, func(g api.Group) bool {
		return slices.ContainsFunc(g.Vars, func(v api.Var) bool { return v.Unit != "" || len(v.Stages) > 0 })
	})
}

// writer forms the encoding of a valid schema.
type writer struct {
	bytes   []byte
	version int
}

// writeList writes the number of items of a list, and these.
func writeList[T any](w *writer, list []T, write func(*writer, T)) {
	w.number(len(list))
	for _, item := range list {
		write(w, item)
	}
}

func (w *writer) number(n int) {
	for n >= 1<<7 {
		w.bytes = append(w.bytes, byte(n)|1<<7)
		n >>= 7
	}
	w.bytes = append(w.bytes, byte(n))
}

func (w *writer) text(s string) {
	w.number(len(s))
	w.bytes = append(w.bytes, s...)
}

func (w *writer) group(g api.Group) {
	w.text(g.Path)
	writeList(w, g.Dims, (*writer).dim)
	writeList(w, g.Attrs, (*writer).attr)
	writeList(w, g.Vars, (*writer).variable)
}

func (w *writer) dim(d api.Dim) {
	w.text(d.Name)
	w.number(d.Size)
	if d.Open {
		w.number(1)
	} else {
		w.number(0)
	}
}

func (w *writer) attr(a api.Attr) {
	w.text(a.Name)
	w.number(a.Kind)
	if a.Kind == api.AttrText {
		w.text(a.Text)
	} else {
		writeList(w, a.Nums, (*writer).text)
	}
}

func (w *writer) variable(v api.Var) {
	w.text(v.Name)
	w.number(v.Type)
	w.number(len(v.Dims))
	for i, dim := range v.Dims {
		w.text(dim)
		w.number(v.Chunks[i])
	}
	w.text(v.Fill)
	if w.version == versionFull {
		w.text(v.Unit)
		writeList(w, v.Stages, (*writer).stage)
	}
	writeList(w, v.Attrs, (*writer).attr)
}

func (w *writer) stage(s api.Stage) {
	w.number(s.Kind)
	w.number(s.N)
	w.text(s.Step)
}
