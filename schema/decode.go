package schema

import (
	"bytes"

	"arrayarchive/api"
)

// maxList is the length of the longest list in a schema.
const maxList = api.MaxNums

// Decode returns the schema whose encoding b is, and its version.
func Decode(b []byte) (api.Schema, int, api.Errno) {
	const header = 3
	if len(b) < header {
		return api.Schema{}, 0, api.ErrBytes
	}
	version := int(b[header-1])
	r := reader{b[header:], version}
	// An encoding of a schema is read as this schema, any other bytes as anything: only the former are what Encode returns for it.
	s := api.Schema{Groups: readList(&r, (*reader).group)}
	back, errno := Encode(s, version)
	if errno != api.OK || !bytes.Equal(back, b) {
		return api.Schema{}, 0, api.ErrBytes
	}
	return s, version, api.OK
}

// reader has the bytes of an encoding that are not read yet. Behind the last one there are only zeros.
type reader struct {
	bytes   []byte
	version int
}

// readList reads the number of items of a list, and these.
func readList[T any](r *reader, read func(*reader) T) []T {
	var list []T
	for range min(r.number(), maxList) {
		item := read(r)
		list = append(list, item)
	}
	return list
}

func (r *reader) next() byte {
	if len(r.bytes) == 0 {
		return 0
	}
	b := r.bytes[0]
	r.bytes = r.bytes[1:]
	return b
}

func (r *reader) number() int {
	n := 0
	for shift := 0; ; shift += 7 {
		b := int(r.next())
		n |= b & (1<<7 - 1) << shift
		if b < 1<<7 {
			return n
		}
	}
}

func (r *reader) text() string {
	n := max(0, min(r.number(), len(r.bytes)))
	s := string(r.bytes[:n])
	r.bytes = r.bytes[n:]
	return s
}

func (r *reader) group() api.Group {
	var g api.Group
	g.Path = r.text()
	g.Dims = readList(r, (*reader).dim)
	g.Attrs = readList(r, (*reader).attr)
	g.Vars = readList(r, (*reader).variable)
	return g
}

func (r *reader) dim() api.Dim {
	var d api.Dim
	d.Name = r.text()
	d.Size = r.number()
	d.Open = r.number() == 1
	return d
}

func (r *reader) attr() api.Attr {
	var a api.Attr
	a.Name = r.text()
	a.Kind = r.number()
	if a.Kind == api.AttrText {
		a.Text = r.text()
	} else {
		a.Nums = readList(r, (*reader).text)
	}
	return a
}

func (r *reader) variable() api.Var {
	var v api.Var
	v.Name = r.text()
	v.Type = r.number()
	for range min(r.number(), maxList) {
		dim := r.text()
		v.Dims = append(v.Dims, dim)
		chunk := r.number()
		v.Chunks = append(v.Chunks, chunk)
	}
	v.Fill = r.text()
	if r.version == versionFull {
		v.Unit = r.text()
		v.Stages = readList(r, (*reader).stage)
	}
	v.Attrs = readList(r, (*reader).attr)
	return v
}

func (r *reader) stage() api.Stage {
	var s api.Stage
	s.Kind = r.number()
	s.N = r.number()
	s.Step = r.text()
	return s
}
