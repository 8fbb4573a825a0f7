package store

import (
	"bytes"
	"maps"
	"slices"

	"arrayarchive/api"
)

// note says what becomes of a key.
type note struct {
	gone  bool
	value []byte // that is put, if the key is not gone
}

func isKeyLength(n int) bool {
	return 1 <= n && n <= api.MaxKey
}

// checkOpen returns the error of a call that needs an open transaction.
func (s *Store) checkOpen() api.Errno {
	if errno := s.check(); errno != api.OK {
		return errno
	}
	if s.notes == nil {
		return api.ErrBusy
	}
	return api.OK
}

// Begin opens a transaction.
func (s *Store) Begin() api.Errno {
	if errno := s.check(); errno != api.OK {
		return errno
	}
	if s.notes != nil {
		return api.ErrBusy
	}
	s.begin()
	return api.OK
}

func (s *Store) begin() {
	s.notes = map[string]note{}
	s.count = len(s.state.entries)
}

// isCommitted reports whether the committed state has a key.
func (s *Store) isCommitted(key string) bool {
	_, ok := s.state.entries[key]
	return ok
}

// has reports whether the committed state, with what is noted, has a key.
func (s *Store) has(key string) bool {
	if n, ok := s.notes[key]; ok {
		return !n.gone
	}
	return s.isCommitted(key)
}

// Put notes a value for a key.
func (s *Store) Put(key string, value []byte) api.Errno {
	if errno := s.checkOpen(); errno != api.OK {
		return errno
	}
	if !isKeyLength(len(key)) {
		return api.ErrKey
	}
	count := s.count
	if !s.has(key) {
		count++
	}
	if len(value) > api.MaxBytes || count > api.MaxKeys {
		return api.ErrLimit
	}
	s.count = count
	s.notes[key] = note{value: bytes.Clone(value)}
	return api.OK
}

// Delete notes that a key goes.
func (s *Store) Delete(key string) api.Errno {
	if errno := s.checkOpen(); errno != api.OK {
		return errno
	}
	if !s.has(key) {
		return api.ErrKey
	}
	s.count--
	if s.isCommitted(key) {
		s.notes[key] = note{gone: true}
	} else {
		delete(s.notes, key)
	}
	return api.OK
}

// Abort ends the transaction without an effect.
func (s *Store) Abort() api.Errno {
	if errno := s.checkOpen(); errno != api.OK {
		return errno
	}
	s.notes = nil
	return api.OK
}

// Commit makes the notes effective as a whole, and ends the transaction.
func (s *Store) Commit() api.Errno {
	if errno := s.checkOpen(); errno != api.OK {
		return errno
	}
	next := s.noted()
	if next.need() > s.Free() {
		return api.ErrFull
	}
	pages := s.placed(&next)
	for _, step := range [][]page{s.blanks, pages, {next.rootPage()}} {
		if errno := writeDurably(s.disk, step); errno != api.OK {
			return errno
		}
	}
	s.occupy(next)
	s.vacate(s.state)
	s.state, s.notes, s.blanks = next, nil, nil
	return api.OK
}

// noted returns the state that the notes make of the committed one, in which the values that are put and the index have no places yet.
func (s *Store) noted() state {
	next := state{generation: s.state.generation + 1, entries: map[string]entry{}}
	maps.Copy(next.entries, s.state.entries)
	for key, n := range s.notes {
		if n.gone {
			delete(next.entries, key)
		} else {
			next.entries[key] = entry{size: len(n.value), generation: next.generation}
		}
	}
	return next
}

// freePlaces returns the places of the free blocks, in ascending order.
func (s *Store) freePlaces() []int {
	var l []int
	for place := rootBlocks; place < s.disk.Blocks(); place++ {
		if s.users[place] == 0 {
			l = append(l, place)
		}
	}
	return l
}

// placed gives free places to what of a state has none yet, and returns the pages that belong there.
func (s *Store) placed(next *state) []page {
	var pages []page
	free := s.freePlaces()
	place := func(kind int, data []byte, blocks int) []int {
		places := slices.Clone(free[:blocks])
		free = free[blocks:]
		pages = append(pages, pagesOf(kind, next.generation, data, places)...)
		return places
	}
	for _, key := range next.keys() {
		if e := next.entries[key]; e.generation == next.generation {
			e.places = place(valueKind, s.notes[key].value, blocksOf(e.size))
			next.entries[key] = e
		}
	}
	index := next.indexBytes()
	next.index = place(indexKind, index, indexBlocks(len(index)))
	return pages
}
