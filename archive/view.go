package archive

import (
	"arrayarchive/api"
	"arrayarchive/store"
)

// View pins a content of an archive. A released one is a zero value.
type View struct {
	snapshot *store.Snapshot
	content  content
}

// View pins the committed content.
func (a *Archive) View() (*View, api.Errno) {
	if errno := a.check(); errno != api.OK {
		return nil, errno
	}
	p, errno := a.store.Snapshot()
	if errno != api.OK {
		return nil, errno
	}
	return &View{p, a.content}, api.OK
}

func (v *View) check() api.Errno {
	if v == nil || v.snapshot == nil {
		return api.ErrClosed
	}
	if v.snapshot.Generation() == 0 { // that of no content
		return api.ErrDown
	}
	return api.OK
}

func (v *View) reader() reader {
	return reader{v.content, v.snapshot.Get}
}

// Generation returns the generation of the content.
func (v *View) Generation() int {
	if v.check() != api.OK {
		return 0
	}
	return v.snapshot.Generation()
}

// Schema returns the schema of the content.
func (v *View) Schema() (api.Schema, api.Errno) {
	if errno := v.check(); errno != api.OK {
		return api.Schema{}, errno
	}
	return v.content.schemaCopy(), api.OK
}

// Read returns the elements of a slab of a variable.
func (v *View) Read(path, name string, slab []api.Cut) (api.Array, api.Errno) {
	if errno := v.check(); errno != api.OK {
		return api.Array{}, errno
	}
	return v.reader().read(path, name, slab)
}

// Count returns the count of a variable.
func (v *View) Count(path, name string) (int, api.Errno) {
	if errno := v.check(); errno != api.OK {
		return 0, errno
	}
	return v.content.count(path, name)
}

// Data returns all variables with their whole arrays.
func (v *View) Data() ([]api.Data, api.Errno) {
	if errno := v.check(); errno != api.OK {
		return nil, errno
	}
	return v.reader().data()
}

// Release ends the view.
func (v *View) Release() api.Errno {
	if errno := v.check(); errno != api.OK {
		return errno
	}
	errno := v.snapshot.Release()
	*v = View{}
	return errno
}
