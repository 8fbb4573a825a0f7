package lab

import (
	"slices"

	"arrayarchive/api"
	"arrayarchive/archive"
	"arrayarchive/schema"
)

// place says where a variable is.
type place struct {
	path, name string
}

func (d derived) chunk() api.Chunk {
	return api.Chunk{Path: d.path, Name: d.Name}
}

// Info returns what the note of a derived variable says.
func (l *Lab) Info(path, name string) (api.Derived, api.Errno) {
	note, errno := l.Archive().Note(path, name)
	if errno != api.OK {
		return api.Derived{}, errno
	}
	says, ok := parseNote(note)
	if !ok {
		return api.Derived{}, api.ErrDerived
	}
	return says, api.OK
}

// Current reports whether a derived variable is current.
func (l *Lab) Current(path, name string) (bool, api.Errno) {
	c, errno := l.content()
	if errno != api.OK {
		return false, errno
	}
	if _, errno := c.read(path, name); errno != api.OK {
		return false, errno
	}
	says, errno := l.Info(path, name)
	if errno != api.OK {
		return false, errno
	}
	v, _ := schema.Find(c.schema, path, name)
	return c.isCurrent(derived{v, path, says}), api.OK
}

// Stale returns the derived variables that are not current.
func (l *Lab) Stale() ([]api.Chunk, api.Errno) {
	c, errno := l.content()
	if errno != api.OK {
		return nil, errno
	}
	var stale []api.Chunk
	for d := range c.derived() {
		if !c.isCurrent(d) {
			stale = append(stale, d.chunk())
		}
	}
	return stale, api.OK
}

// inOrder returns the derived variables such that each one stands behind those that it depends on.
func (c content) inOrder() ([]derived, api.Errno) {
	waiting := slices.Collect(c.derived())
	isWaiting := map[place]bool{}
	for _, d := range waiting {
		isWaiting[place{d.path, d.Name}] = true
	}
	isReady := func(d derived) bool {
		return !slices.ContainsFunc(d.says.Sources, func(s api.Source) bool { return isWaiting[place{s.Path, s.Name}] })
	}
	var ordered []derived
	for len(waiting) > 0 {
		next := slices.IndexFunc(waiting, isReady)
		if next < 0 {
			return nil, api.ErrCycle
		}
		d := waiting[next]
		ordered = append(ordered, d)
		isWaiting[place{d.path, d.Name}] = false
		waiting = slices.Delete(waiting, next, next+1)
	}
	return ordered, api.OK
}

// Order returns the derived variables such that each one stands behind those that it depends on.
func (l *Lab) Order() ([]api.Chunk, api.Errno) {
	c, errno := l.content()
	if errno != api.OK {
		return nil, errno
	}
	ordered, errno := c.inOrder()
	if errno != api.OK {
		return nil, errno
	}
	var chunks []api.Chunk
	for _, d := range ordered {
		chunks = append(chunks, d.chunk())
	}
	return chunks, api.OK
}

// Refresh computes the derived variables that are not current, each behind those that it depends on, and returns those that it has written.
func (l *Lab) Refresh() ([]api.Chunk, api.Errno) {
	c, errno := l.content()
	if errno != api.OK {
		return nil, errno
	}
	ordered, errno := c.inOrder()
	if errno != api.OK {
		return nil, errno
	}
	if errno := c.archive.Begin(); errno != api.OK {
		return nil, errno
	}
	c.archive.Abort()
	var written []api.Chunk
	for _, d := range ordered {
		result, fits := c.result(d)
		if !fits || c.has(d, result) {
			continue
		}
		errno := l.transact(func(a *archive.Archive) api.Errno { return c.put(d.path, d.Name, d.says.Expr, result) })
		if errno != api.OK {
			return nil, errno
		}
		written = append(written, d.chunk())
	}
	return written, api.OK
}
