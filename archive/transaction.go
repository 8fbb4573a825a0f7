package archive

import (
	"maps"
	"slices"
	"strings"

	"arrayarchive/api"
	"arrayarchive/array"
	"arrayarchive/codec"
	"arrayarchive/schema"
	"arrayarchive/store"
)

// transaction is a copy of a committed content, with what was done to it.
type transaction struct {
	content
	store   *store.Store
	before  int               // the number of ids that were given when it began
	chunks  map[string][]byte // the bytes of chunks that are put, by their keys, and nil for those that go
	changed map[int]bool      // the ids of the variables whose counts become greater
}

func newTransaction(s *store.Store, c content) *transaction {
	c.records = maps.Clone(c.records)
	return &transaction{content: c, store: s, before: c.given, chunks: map[string][]byte{}, changed: map[int]bool{}}
}

// get returns the bytes of a chunk as the transaction has it.
func (t *transaction) get(key string) ([]byte, api.Errno) {
	b, ok := t.chunks[key]
	if !ok {
		return t.store.Get(key)
	}
	if b == nil {
		return nil, api.ErrKey
	}
	return b, api.OK
}

func (t *transaction) reader() reader {
	return reader{t.content, t.get}
}

// change makes one change of the schema, and of what depends on it.
func (t *transaction) change(c api.Change) api.Errno {
	next, errno := schema.Apply(t.schema, c)
	if errno == api.OK && c.Kind == api.AddVar {
		errno = t.checkNew(c.Var)
	}
	if errno != api.OK {
		return errno
	}
	t.schema = next
	switch c.Kind {
	case api.AddVar:
		t.given++
		t.records[place{c.Path, c.Var.Name}] = record{id: t.given}
	case api.DropVar:
		t.drop(place{c.Path, c.Name})
	case api.NameVar:
		from := place{c.Path, c.Name}
		t.records[place{c.Path, c.New}] = t.records[from]
		delete(t.records, from)
	case api.Grow:
		t.grown(c)
	}
	return api.OK
}

// checkNew returns the error of a variable that the schema takes.
func (t *transaction) checkNew(v api.Var) api.Errno {
	if t.format == oldFormat && (v.Unit != "" || len(v.Stages) > 0) {
		return api.ErrVersion
	}
	return checkPipeline(v)
}

// drop removes what the archive keeps of a variable, and its chunks.
func (t *transaction) drop(at place) {
	prefix := keyPrefix(t.records[at].id)
	delete(t.records, at)
	maps.DeleteFunc(t.chunks, func(key string, b []byte) bool { return strings.HasPrefix(key, prefix) })
	keys, _ := t.store.Keys()
	for _, key := range keys {
		if strings.HasPrefix(key, prefix) {
			t.chunks[key] = nil
		}
	}
}

// grown marks the variables that have another shape than before the transaction, as one of their dimensions is longer now.
func (t *transaction) grown(c api.Change) {
	if c.Size == 0 {
		return
	}
	users, _ := schema.Users(t.schema, c.Path, c.Name)
	for _, u := range users {
		if id := t.records[place{u.Path, u.Name}].id; id <= t.before {
			t.changed[id] = true
		}
	}
}

// write replaces the elements of a slab.
func (t *transaction) write(path, name string, slab []api.Cut, b api.Array) api.Errno {
	v, errno := t.find(path, name)
	if errno != api.OK {
		return errno
	}
	touched, errno := array.Touched(t.shape(v), v.Chunks, slab)
	if errno != api.OK {
		return errno
	}
	if !array.Valid(b) || !slices.Equal(b.Shape, counts(slab)) {
		return api.ErrShape
	}
	vals, errno := kept(v.Var, b.Vals)
	if errno != api.OK {
		return errno
	}
	// All chunks are read before one is encoded, as their damage counts before their length.
	news := make([][]string, len(touched))
	for i, index := range touched {
		if news[i], errno = t.writable(v, index); errno != api.OK {
			return errno
		}
		for from, to := range shared(slab, v.Chunks, index) {
			news[i][to] = vals[from]
		}
	}
	chunks, errno := t.chunksWith(v, touched, news)
	if errno != api.OK {
		return errno
	}
	t.chunks = chunks
	t.changed[v.id] = true
	return api.OK
}

// chunksWith returns the chunks of the transaction with new values of some. ErrLimit: a chunk would be too long, or the store have too many keys.
func (t *transaction) chunksWith(v variable, indexes [][]int, news [][]string) (map[string][]byte, api.Errno) {
	chunks := maps.Clone(t.chunks)
	for i, index := range indexes {
		code, errno := codec.Encode(v.Type, v.Stages, news[i])
		if errno != api.OK {
			return nil, errno
		}
		if len(code) > api.MaxBytes {
			return nil, api.ErrLimit
		}
		chunks[chunkKey(v.id, index)] = code
	}
	if t.keysWith(chunks) > api.MaxKeys {
		return nil, api.ErrLimit
	}
	return chunks, api.OK
}

// writable returns the values of a chunk, whether or not it is there.
func (t *transaction) writable(v variable, index []int) ([]string, api.Errno) {
	vals, errno := t.reader().chunk(v, index)
	if errno == api.ErrKey {
		return fillArray(v.Var, v.Chunks).Vals, api.OK
	}
	return vals, errno
}

// keysWith returns the number of keys that the store would have if it were committed with chunks.
func (t *transaction) keysWith(chunks map[string][]byte) int {
	keys, _ := t.store.Keys()
	set := keySet(keys)
	for key, b := range chunks {
		if b == nil {
			delete(set, key)
		} else {
			set[key] = true
		}
	}
	return len(set)
}

// setNote sets the note of a variable.
func (t *transaction) setNote(path, name string, note []byte) api.Errno {
	v, errno := t.find(path, name)
	if errno != api.OK {
		return errno
	}
	if len(note) > maxNote {
		return api.ErrLimit
	}
	v.note = slices.Clone(note)
	t.records[place{path, name}] = v.record
	return api.OK
}

// result returns the content that the transaction commits.
func (t *transaction) result() content {
	c := t.content
	c.records = map[place]record{}
	for at, r := range t.records {
		if t.changed[r.id] {
			r.count++
		}
		c.records[at] = r
	}
	return c
}

// commit commits a transaction, which stays as it is if there is an error.
func (a *Archive) commit(t *transaction) api.Errno {
	next := t.result()
	code, errno := schema.Encode(next.schema, next.format)
	if errno != api.OK {
		return errno
	}
	values := maps.Clone(t.chunks)
	values[schemaKey] = code
	values[stateKey] = next.state()
	if errno := replace(a.store, values); errno != api.OK {
		return errno
	}
	a.content, a.open = next, nil
	return api.OK
}

// replace commits values of keys, where nil is for one that goes. ErrLimit: a value is too long.
func replace(s *store.Store, values map[string][]byte) api.Errno {
	errno := s.Begin()
	// What goes makes room for what comes.
	for key, b := range values {
		if b == nil && errno == api.OK {
			errno = s.Delete(key)
		}
	}
	for key, b := range values {
		if b != nil && errno == api.OK {
			errno = s.Put(key, b)
		}
	}
	if errno == api.OK {
		errno = s.Commit()
	}
	if errno != api.OK {
		s.Abort()
	}
	return errno
}
