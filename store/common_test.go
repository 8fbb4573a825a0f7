package store_test

import (
	"bytes"
	"maps"
	"math/rand/v2"
	"slices"
	"testing"

	"arrayarchive/api"
	"arrayarchive/store"
)

func newRandom(seed uint64) *rand.Rand {
	return rand.New(rand.NewPCG(5, seed))
}

func pick[T any](r *rand.Rand, l []T) T {
	return l[r.IntN(len(l))]
}

// filled returns n bytes that depend on n and on a number.
func filled(n, number int) []byte {
	b := make([]byte, n)
	for i := range b {
		b[i] = byte(number*31 + n*7 + i*i + i>>8)
	}
	return b
}

func checkErrno(t *testing.T, name string, got, want api.Errno) {
	t.Helper()
	if got != want {
		t.Errorf("%s: error %d, want %d", name, got, want)
	}
}

func newDisk(t *testing.T, blocks int) *store.Disk {
	t.Helper()
	d, errno := store.NewDisk(blocks)
	if d == nil || errno != api.OK {
		t.Fatalf("NewDisk(%d): error %d", blocks, errno)
	}
	return d
}

func format(t *testing.T, d *store.Disk) *store.Store {
	t.Helper()
	s, errno := store.Format(d)
	if s == nil || errno != api.OK {
		t.Fatalf("Format: error %d", errno)
	}
	return s
}

func open(t *testing.T, d *store.Disk) *store.Store {
	t.Helper()
	s, errno := store.Open(d)
	if s == nil || errno != api.OK {
		t.Fatalf("Open: error %d", errno)
	}
	return s
}

func made(t *testing.T, blocks int) (*store.Disk, *store.Store) {
	t.Helper()
	d := newDisk(t, blocks)
	return d, format(t, d)
}

func write(t *testing.T, d *store.Disk, i int, b []byte) {
	t.Helper()
	checkErrno(t, "Write", d.Write(i, b), api.OK)
}

// read returns the bytes of all blocks.
func read(t *testing.T, d *store.Disk) []byte {
	t.Helper()
	var all []byte
	for i := range d.Blocks() {
		b, errno := d.Read(i)
		if errno != api.OK || len(b) != api.MaxBlock {
			t.Fatalf("Read(%d): %d bytes, error %d", i, len(b), errno)
		}
		all = append(all, b...)
	}
	return all
}

// values are the keys of a state with their values.
type values map[string][]byte

// begin opens a transaction, and notes values to be put, and keys to be deleted.
func begin(t *testing.T, s *store.Store, puts values, deletes ...string) {
	t.Helper()
	checkErrno(t, "Begin", s.Begin(), api.OK)
	for _, key := range slices.Sorted(maps.Keys(puts)) {
		checkErrno(t, "Put", s.Put(key, puts[key]), api.OK)
	}
	for _, key := range deletes {
		checkErrno(t, "Delete", s.Delete(key), api.OK)
	}
}

func commit(t *testing.T, s *store.Store, puts values, deletes ...string) {
	t.Helper()
	begin(t, s, puts, deletes...)
	checkErrno(t, "Commit", s.Commit(), api.OK)
}

// reader is a store or a snapshot.
type reader interface {
	Generation() int
	Keys() ([]string, api.Errno)
	Get(key string) ([]byte, api.Errno)
}

// differs reports how what a reader returns differs from a state, or nothing.
func differs(x reader, generation int, want values) string {
	if x.Generation() != generation {
		return "generation"
	}
	keys, errno := x.Keys()
	if errno != api.OK || !slices.Equal(keys, slices.Sorted(maps.Keys(want))) {
		return "keys"
	}
	for key, value := range want {
		b, errno := x.Get(key)
		if errno != api.OK || !bytes.Equal(b, value) {
			return "value of " + key
		}
	}
	if b, errno := x.Get("no such key"); b != nil || errno != api.ErrKey {
		return "value of no key"
	}
	return ""
}

func checkState(t *testing.T, name string, x reader, generation int, want values) {
	t.Helper()
	if s := differs(x, generation, want); s != "" {
		t.Errorf("%s: wrong %s (generation %d, want %d)", name, s, x.Generation(), generation)
	}
}

func checkFree(t *testing.T, name string, s *store.Store, want int) {
	t.Helper()
	if got := s.Free(); got != want {
		t.Errorf("%s: %d blocks are free, want %d", name, got, want)
	}
}

// valueBlocks returns the number of blocks that values occupy, and indexBlocks that of the index of a state.
func valueBlocks(v values) int {
	blocks := 0
	for _, value := range v {
		blocks += (len(value) + 239) / 240
	}
	return blocks
}

func indexBlocks(v values) int {
	size := 0
	for key, value := range v {
		size += 8 + len(key) + 2*((len(value)+239)/240)
	}
	return max(1, (size+239)/240)
}

// freeOf returns the number of free blocks if nothing is pinned.
func freeOf(blocks int, v values) int {
	return blocks - 2 - valueBlocks(v) - indexBlocks(v)
}

// every returns a list for each choice of n bools.
func every(n int) [][]bool {
	l := make([][]bool, 1<<n)
	for i := range l {
		l[i] = make([]bool, n)
		for k := range n {
			l[i][k] = i>>k&1 == 1
		}
	}
	return l
}
