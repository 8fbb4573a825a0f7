package store_test

import (
	"maps"
	"math/rand/v2"
	"slices"
	"strings"
	"testing"

	"arrayarchive/api"
	"arrayarchive/store"
)

// version is a value that was put; another Put of the same bytes makes another one.
type version struct {
	id    int // from 1 on
	bytes []byte
}

type modelState struct {
	generation int
	versions   map[string]version
}

func (x modelState) values() values {
	v := values{}
	for key, version := range x.versions {
		v[key] = version.bytes
	}
	return v
}

// model is a store as the chapter describes it, beside the one that is tested.
type model struct {
	t      *testing.T
	r      *rand.Rand
	blocks int
	disk   *store.Disk
	store  *store.Store
	now    *modelState
	open   *modelState // the one that the transaction makes, or nil
	ids    int
	pins   []*store.Snapshot
	pinned []*modelState
}

func newModel(t *testing.T, seed uint64) *model {
	r := newRandom(seed)
	m := &model{t: t, r: r, blocks: pick(r, []int{4, 5, 8, 12, 20, 40, 80})}
	m.disk = newDisk(t, m.blocks)
	m.format()
	return m
}

func (m *model) format() {
	m.store = format(m.t, m.disk)
	*m = model{t: m.t, r: m.r, blocks: m.blocks, disk: m.disk, store: m.store, ids: m.ids, now: &modelState{}}
}

// free returns the number of blocks that neither the committed state nor a pinned one occupies.
func (m *model) free() int {
	states, sizes := map[*modelState]bool{m.now: true}, map[int]int{}
	for _, state := range m.pinned {
		states[state] = true
	}
	free := m.blocks - 2
	for state := range states {
		free -= indexBlocks(state.values())
		for _, version := range state.versions {
			sizes[version.id] = (len(version.bytes) + 239) / 240
		}
	}
	for _, size := range sizes {
		free -= size
	}
	return free
}

// need returns the number of blocks that the commit of the transaction needs.
func (m *model) need() int {
	puts := values{}
	for key, version := range m.open.versions {
		if version.id != m.now.versions[key].id {
			puts[key] = version.bytes
		}
	}
	return valueBlocks(puts) + indexBlocks(m.open.values())
}

// busy returns the error of a call that needs a transaction, or does not bear one.
func (m *model) busy(needs bool) api.Errno {
	if needs != (m.open != nil) {
		return api.ErrBusy
	}
	return api.OK
}

func (m *model) key() string {
	return pick(m.r, []string{"a", "b", "ab", "a/b", "\x00", strings.Repeat("k", 60), strings.Repeat("k", 64), strings.Repeat("l", 50)})
}

func (m *model) begin() {
	want := m.busy(false)
	checkErrno(m.t, "Begin", m.store.Begin(), want)
	if want == api.OK {
		m.open = &modelState{m.now.generation + 1, maps.Clone(m.now.versions)}
		if m.open.versions == nil {
			m.open.versions = map[string]version{}
		}
	}
}

func (m *model) put() {
	key, size := m.key(), pick(m.r, []int{0, 1, 239, 240, 241, 500, 900, m.r.IntN(2000)})
	m.ids++
	value := filled(size, m.ids%5)
	want := m.busy(true)
	checkErrno(m.t, "Put", m.store.Put(key, value), want)
	if want == api.OK {
		m.open.versions[key] = version{m.ids, value}
	}
}

func (m *model) delete() {
	key, want := m.key(), m.busy(true)
	if want == api.OK {
		if _, ok := m.open.versions[key]; !ok {
			want = api.ErrKey
		}
	}
	checkErrno(m.t, "Delete", m.store.Delete(key), want)
	if want == api.OK {
		delete(m.open.versions, key)
	}
}

func (m *model) abort() {
	checkErrno(m.t, "Abort", m.store.Abort(), m.busy(true))
	m.open = nil
}

func (m *model) commit() {
	want := m.busy(true)
	if want == api.OK && m.need() > m.free() {
		want = api.ErrFull
	}
	if want == api.OK && m.r.IntN(3) == 0 {
		m.disk.Arm(1 + m.r.IntN(8))
	}
	errno := m.store.Commit()
	if want == api.OK && errno == api.ErrDown {
		m.restart()
		return
	}
	m.disk.Arm(0)
	checkErrno(m.t, "Commit", errno, want)
	if want == api.OK {
		m.now, m.open = m.open, nil
	}
}

// restart lets the power fail, and goes on with what Open finds.
func (m *model) restart() {
	keep := make([]bool, m.r.IntN(12))
	for k := range keep {
		keep[k] = m.r.IntN(3) > 0
	}
	down := m.disk.Down()
	m.disk.Crash(keep)
	checkDead(m.t, "a store behind a crash", m.store)
	m.store = open(m.t, m.disk)
	if down && m.open != nil && m.store.Generation() == m.open.generation {
		m.now = m.open
	}
	m.open = nil
	for _, p := range m.pins {
		checkErrno(m.t, "a snapshot behind a crash", callSnapshot(p), api.ErrDown)
	}
	m.pins, m.pinned = nil, nil
}

func (m *model) snapshot() {
	p, errno := m.store.Snapshot()
	if len(m.pins) == 16 {
		checkErrno(m.t, "Snapshot", errno, api.ErrLimit)
		return
	}
	checkErrno(m.t, "Snapshot", errno, api.OK)
	m.pins, m.pinned = append(m.pins, p), append(m.pinned, m.now)
}

func (m *model) release() {
	if len(m.pins) == 0 {
		return
	}
	i := m.r.IntN(len(m.pins))
	checkErrno(m.t, "Release", m.pins[i].Release(), api.OK)
	m.pins, m.pinned = slices.Delete(m.pins, i, i+1), slices.Delete(m.pinned, i, i+1)
}

func (m *model) check() {
	checkState(m.t, "a store", m.store, m.now.generation, m.now.values())
	checkFree(m.t, "a store", m.store, m.free())
	for i, p := range m.pins {
		checkState(m.t, "a snapshot", p, m.pinned[i].generation, m.pinned[i].values())
	}
	damaged, errno := m.store.Damaged()
	checkErrno(m.t, "Damaged", errno, api.OK)
	if len(damaged) > 0 {
		m.t.Errorf("Damaged: %q", damaged)
	}
}

// P5.6 to P5.10, P5.12, P5.14 and P5.15
func TestStoreByModel(t *testing.T) {
	for seed := range uint64(400) {
		m := newModel(t, seed)
		for range 150 {
			switch n := m.r.IntN(30); {
			case n < 5:
				m.begin()
			case n < 13:
				m.put()
			case n < 16:
				m.delete()
			case n < 22:
				m.commit()
			case n == 22:
				m.abort()
			case n < 25:
				m.snapshot()
			case n < 28:
				m.release()
			case n == 28:
				m.restart()
			case m.r.IntN(5) == 0:
				m.format()
			}
			m.check()
			if t.Failed() {
				t.Fatalf("seed %d", seed)
			}
		}
	}
}
