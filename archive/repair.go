package archive

import "arrayarchive/api"

// checkIdle returns the error of a call that makes a transaction of its own.
func (a *Archive) checkIdle() api.Errno {
	if errno := a.check(); errno != api.OK {
		return errno
	}
	if a.open != nil {
		return api.ErrBusy
	}
	return api.OK
}

// Upgrade commits the same content with the new format.
func (a *Archive) Upgrade() api.Errno {
	if errno := a.checkIdle(); errno != api.OK {
		return errno
	}
	if a.content.format == newFormat {
		return api.OK
	}
	t := newTransaction(a.store, a.content)
	t.format = newFormat
	return a.commit(t)
}

// Damaged returns the chunks that are there and damaged.
func (a *Archive) Damaged() ([]api.Chunk, api.Errno) {
	if errno := a.check(); errno != api.OK {
		return nil, errno
	}
	return a.reader().damaged(), api.OK
}

// Repair commits a content in which the damaged chunks are not there, and returns them.
func (a *Archive) Repair() ([]api.Chunk, api.Errno) {
	if errno := a.checkIdle(); errno != api.OK {
		return nil, errno
	}
	l := a.reader().damaged()
	if len(l) == 0 {
		return nil, api.OK
	}
	t := newTransaction(a.store, a.content)
	for _, c := range l {
		id := t.records[place{c.Path, c.Name}].id
		t.chunks[chunkKey(id, c.Index)] = nil
		t.changed[id] = true
	}
	if errno := a.commit(t); errno != api.OK {
		return nil, errno
	}
	return l, api.OK
}
