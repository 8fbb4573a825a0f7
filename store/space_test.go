package store_test

import (
	"bytes"
	"strings"
	"testing"

	"arrayarchive/api"
	"arrayarchive/store"
)

// P5.9 and P5.15

// The examples of the chapter.
func TestSpaceExamples(t *testing.T) {
	_, s := made(t, 10)
	checkFree(t, "an empty store", s, 7)
	a := values{"a": filled(241, 1)}
	commit(t, s, a)
	checkFree(t, "with a", s, 5)
	begin(t, s, values{"b": filled(1200, 2)})
	checkErrno(t, "Commit of b", s.Commit(), api.ErrFull)
	checkErrno(t, "Abort", s.Abort(), api.OK)
	p, _ := s.Snapshot()
	checkFree(t, "with a snapshot", s, 5)
	commit(t, s, nil, "a")
	checkFree(t, "without a", s, 4)
	checkState(t, "the snapshot", p, 1, a)
	checkErrno(t, "Release", p.Release(), api.OK)
	checkFree(t, "without the snapshot", s, 7)
}

// An index of 240 bytes occupies one block, one of 241 bytes two.
func TestIndexBlocks(t *testing.T) {
	long := func(letter string, n int) string { return strings.Repeat(letter, n) }
	for _, c := range []struct {
		v    values
		want int
	}{
		{nil, 1},
		{values{"a": nil}, 1},
		{values{long("a", 64): nil, long("b", 64): nil, long("c", 64): nil, long("d", 16): nil}, 1},
		{values{long("a", 64): nil, long("b", 64): nil, long("c", 64): nil, long("d", 17): nil}, 2},
		{values{long("a", 64): nil, long("b", 64): nil, long("c", 64): nil, long("d", 14): filled(240, 1)}, 1},
		{values{long("a", 64): nil, long("b", 64): nil, long("c", 64): nil, long("d", 15): filled(240, 1)}, 2},
		{values{long("a", 64): nil, long("b", 64): nil, long("c", 64): nil, long("d", 14): filled(241, 1)}, 2},
		{values{"aaaa": filled(240*114, 1)}, 1},
		{values{"aaaaa": filled(240*114, 1)}, 2},
		{values{"aaaa": filled(240*114+1, 1)}, 2},
		{values{"aaaaaa": filled(240*233, 1)}, 2},
		{values{"aaaaaaa": filled(240*233, 1)}, 3},
	} {
		d, s := made(t, 300)
		commit(t, s, c.v)
		free := 298 - valueBlocks(c.v) - c.want
		checkState(t, "an index", s, 1, c.v)
		checkFree(t, "an index", s, free)
		r := open(t, d)
		checkState(t, "an index, opened", r, 1, c.v)
		checkFree(t, "an index, opened", r, free)
	}
}

// A commit needs as many blocks as it is said to, and no more.
func TestFull(t *testing.T) {
	for blocks := 4; blocks < 40; blocks++ {
		free := blocks - 3
		d, s := made(t, blocks)
		before := read(t, d)
		begin(t, s, values{"a": filled(240*free, 1)}) // one more for the index
		for range 3 {
			checkErrno(t, "Commit of too much", s.Commit(), api.ErrFull)
			checkErrno(t, "Begin", s.Begin(), api.ErrBusy) // the transaction stays open
		}
		if d.Pending() != 0 || !bytes.Equal(read(t, d), before) {
			t.Error("Commit of too much changes the disk")
		}
		checkState(t, "with too much", s, 0, nil)
		checkFree(t, "with too much", s, free)
		want := values{"a": filled(240*(free-1), 2)}
		checkErrno(t, "Put of less", s.Put("a", want["a"]), api.OK)
		checkErrno(t, "Commit of all blocks", s.Commit(), api.OK)
		checkState(t, "with all blocks", s, 1, want)
		checkFree(t, "with all blocks", s, 1)
		checkState(t, "with all blocks, opened", open(t, d.Copy()), 1, want)
		// The last free block is for the next index.
		commit(t, s, nil)
		checkState(t, "behind a commit of nothing", s, 2, want)
		checkFree(t, "behind a commit of nothing", s, 1)
		commit(t, s, values{"b": nil})
		checkFree(t, "with an empty value", s, 1)
		p, _ := s.Snapshot()
		commit(t, s, nil, "a")
		checkFree(t, "with a snapshot", s, 0)
		begin(t, s, nil)
		checkErrno(t, "Commit of nothing", s.Commit(), api.ErrFull)
		checkErrno(t, "Release", p.Release(), api.OK)
		checkErrno(t, "Commit of nothing", s.Commit(), api.OK)
		checkState(t, "at the end", s, 5, values{"b": nil})
		checkFree(t, "at the end", s, free)
	}
}

// A value that is put has blocks of its own while the old one is still committed, also if it is the same.
func TestSpaceOfOldValues(t *testing.T) {
	_, s := made(t, 12)
	a := values{"a": filled(900, 1)}
	commit(t, s, a)
	checkFree(t, "with a", s, 5)
	for range 5 {
		commit(t, s, a)
		checkFree(t, "with a again", s, 5)
	}
	begin(t, s, values{"a": filled(961, 1)})
	checkErrno(t, "Commit", s.Commit(), api.ErrFull)
	checkErrno(t, "Delete", s.Delete("a"), api.OK) // the blocks of the committed value are not free yet
	checkErrno(t, "Put", s.Put("b", filled(961, 1)), api.OK)
	checkErrno(t, "Commit", s.Commit(), api.ErrFull)
	checkErrno(t, "Put", s.Put("b", filled(960, 1)), api.OK)
	checkErrno(t, "Commit", s.Commit(), api.OK)
	checkFree(t, "with b", s, 5)
}

// Both states share what the commit between them did not touch.
func TestSharedBlocks(t *testing.T) {
	_, s := made(t, 100)
	a := values{"a": filled(2400, 1), "b": filled(480, 1)}
	commit(t, s, a)
	checkFree(t, "at first", s, 85)
	p, _ := s.Snapshot()
	q, _ := s.Snapshot()
	checkFree(t, "with snapshots", s, 85)
	commit(t, s, values{"c": filled(1, 1)})
	checkFree(t, "with another value", s, 83)
	commit(t, s, values{"b": a["b"]})
	checkFree(t, "with the same value again", s, 81)
	commit(t, s, nil, "a")
	checkFree(t, "without a", s, 81)
	checkState(t, "a snapshot", p, 1, a)
	checkErrno(t, "Release", p.Release(), api.OK)
	checkFree(t, "with one snapshot", s, 81)
	checkState(t, "the other snapshot", q, 1, a)
	checkErrno(t, "Release", q.Release(), api.OK)
	checkFree(t, "without snapshots", s, freeOf(100, values{"b": a["b"], "c": filled(1, 1)}))
}

// The greatest state that a disk can hold.
func TestGreatestStore(t *testing.T) {
	d, s := made(t, 1024)
	want := values{}
	for i := range 512 {
		want[key(i)] = filled(1+i%240, i)
	}
	left := 1022 - indexBlocks(want) - 512
	checkErrno(t, "Begin", s.Begin(), api.OK)
	for k, v := range want {
		checkErrno(t, "Put", s.Put(k, v), api.OK)
	}
	checkErrno(t, "Commit", s.Commit(), api.OK)
	checkFree(t, "many keys", s, left)
	for i := range 2 {
		want[key(i)] = filled(240*90, i)
		commit(t, s, values{key(i): want[key(i)]})
		checkFree(t, "many keys", s, freeOf(1024, want))
	}
	checkState(t, "many keys", open(t, d), 3, want)
}

// What a state needs does not depend on how it came about.
func TestFreeDependsOnStateAlone(t *testing.T) {
	want := values{"a": filled(1000, 1), "b": nil, "c": filled(240, 2)}
	for seed := range uint64(30) {
		r := newRandom(seed)
		_, s := made(t, 60)
		var pins []*store.Snapshot
		for range r.IntN(20) {
			begin(t, s, values{pick(r, []string{"a", "b", "c", "d", "e"}): filled(r.IntN(1000), 3)})
			if s.Commit() != api.OK {
				checkErrno(t, "Abort", s.Abort(), api.OK)
			}
			if p, errno := s.Snapshot(); errno == api.OK && r.IntN(3) == 0 {
				pins = append(pins, p)
			} else {
				p.Release()
			}
		}
		for _, p := range pins {
			checkErrno(t, "Release", p.Release(), api.OK)
		}
		keys, _ := s.Keys()
		commit(t, s, nil, keys...)
		checkFree(t, "an empty state", s, 57)
		commit(t, s, want)
		checkFree(t, "a state", s, freeOf(60, want))
	}
}
