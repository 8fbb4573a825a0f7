package store

import "arrayarchive/api"

// Snapshot pins a state of a store. A released one is a zero value.
type Snapshot struct {
	store *Store
	state state
}

// Snapshot pins the committed state.
func (s *Store) Snapshot() (*Snapshot, api.Errno) {
	if errno := s.check(); errno != api.OK {
		return nil, errno
	}
	if s.pins == api.MaxPins {
		return nil, api.ErrLimit
	}
	s.pins++
	s.occupy(s.state)
	return &Snapshot{s, s.state}, api.OK
}

func (p *Snapshot) isReleased() bool {
	return p == nil || p.store == nil
}

func (p *Snapshot) check() api.Errno {
	if p.isReleased() {
		return api.ErrClosed
	}
	return p.store.check()
}

// Generation returns the generation of the state.
func (p *Snapshot) Generation() int {
	if p.check() != api.OK {
		return 0
	}
	return p.state.generation
}

// Keys returns the keys of the state in ascending order.
func (p *Snapshot) Keys() ([]string, api.Errno) {
	if errno := p.check(); errno != api.OK {
		return nil, errno
	}
	return p.state.keys(), api.OK
}

// Get returns the value of a key in the state.
func (p *Snapshot) Get(key string) ([]byte, api.Errno) {
	if errno := p.check(); errno != api.OK {
		return nil, errno
	}
	return p.state.get(p.store.disk, key)
}

// Release ends the snapshot.
func (p *Snapshot) Release() api.Errno {
	if p.isReleased() {
		return api.ErrClosed
	}
	p.store.vacate(p.state)
	p.store.pins--
	*p = Snapshot{}
	return api.OK
}
