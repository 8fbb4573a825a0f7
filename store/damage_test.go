package store_test

import (
	"bytes"
	"maps"
	"slices"
	"testing"

	"arrayarchive/api"
	"arrayarchive/store"
)

// checkDamaged checks that a reader returns the values of a state, but for some whose errors are ErrStore, and returns the keys of these.
func checkDamaged(t *testing.T, name string, x reader, want values) []string {
	t.Helper()
	keys, errno := x.Keys()
	if errno != api.OK || !slices.Equal(keys, slices.Sorted(maps.Keys(want))) {
		t.Errorf("%s: keys %q, error %d", name, keys, errno)
	}
	var damaged []string
	for _, key := range keys {
		b, errno := x.Get(key)
		switch {
		case errno == api.ErrStore && b == nil:
			damaged = append(damaged, key)
		case errno != api.OK || !bytes.Equal(b, want[key]):
			t.Errorf("%s: Get(%q): %d bytes, error %d", name, key, len(b), errno)
		}
	}
	if s, ok := x.(*store.Store); ok {
		l, errno := s.Damaged()
		if errno != api.OK || !slices.Equal(l, damaged) {
			t.Errorf("%s: Damaged: %q, want %q, error %d", name, l, damaged, errno)
		}
	}
	return damaged
}

// spoilt calls try with a disk of which one byte has been changed, for each byte.
func spoilt(t *testing.T, d *store.Disk, by byte, try func(c *store.Disk)) {
	t.Helper()
	c := d.Copy()
	for i := range c.Blocks() {
		for at := range api.MaxBlock {
			checkErrno(t, "Spoil", c.Spoil(i, at, by), api.OK)
			try(c)
			checkErrno(t, "Spoil back", c.Spoil(i, at, by), api.OK)
		}
	}
}

// P5.13

func TestSpoiltStore(t *testing.T) {
	d, s := made(t, 16)
	before := values{"a": filled(500, 1), "b": filled(100, 1), "c": nil, "d": nil}
	after := values{"a": filled(500, 2), "b": filled(100, 1), "c": filled(240, 2), "e": nil}
	commit(t, s, before)
	commit(t, s, values{"a": after["a"], "c": after["c"], "e": nil}, "d")
	for _, by := range []byte{1, 0x80, 0xff} {
		now, past, none, damaged := 0, 0, 0, 0
		spoilt(t, d, by, func(c *store.Disk) {
			r, errno := store.Open(c)
			switch {
			case errno != api.OK:
				checkErrno(t, "Open of a spoilt disk", errno, api.ErrStore)
				if r != nil {
					t.Fatal("a store with an error")
				}
				none++
			case r.Generation() == 2:
				damaged += len(checkDamaged(t, "the state", r, after))
				now++
			case r.Generation() == 1:
				damaged += len(checkDamaged(t, "the state before it", r, before))
				past++
			default:
				t.Fatalf("generation %d", r.Generation())
			}
		})
		// A byte of a root or an index takes us back, one of a value or a free block does not.
		if now != 14*256 || past != 2*256 || none != 0 || damaged != 5*256 {
			t.Errorf("by %d: the state %d times, the one before it %d times, none %d times, %d damaged values", by, now, past, none, damaged)
		}
	}
}

// An open store goes on with its state, whatever byte is changed.
func TestSpoiltOpenStore(t *testing.T) {
	d, s := made(t, 16)
	before := values{"a": filled(500, 1), "b": filled(100, 1)}
	after := values{"a": filled(500, 2), "b": filled(100, 1)}
	commit(t, s, before)
	p, _ := s.Snapshot()
	commit(t, s, values{"a": after["a"]})
	damaged := 0
	for i := range 16 {
		for at := range 256 {
			d.Spoil(i, at, 4)
			damaged += len(checkDamaged(t, "an open store", s, after))
			damaged += len(checkDamaged(t, "a snapshot", p, before))
			d.Spoil(i, at, 4)
		}
	}
	if damaged != 8*256 {
		t.Errorf("%d damaged values", damaged)
	}
	checkState(t, "an open store", s, 2, after)
	checkState(t, "a snapshot", p, 1, before)
}

// There is no state before that of Format, whatever the disk held.
func TestSpoiltFormat(t *testing.T) {
	d, s := made(t, 8)
	commit(t, s, values{"a": filled(100, 1)})
	commit(t, s, values{"a": filled(100, 2)})
	format(t, d)
	none := 0
	spoilt(t, d, 1, func(c *store.Disk) {
		r, errno := store.Open(c)
		if errno == api.OK {
			checkState(t, "a store", r, 0, nil)
			return
		}
		checkErrno(t, "Open", errno, api.ErrStore)
		none++
	})
	if none != 2*256 {
		t.Errorf("Open returns ErrStore %d times", none)
	}
}

// P5.11

func TestDamaged(t *testing.T) {
	d, s := made(t, 60)
	want := values{}
	for i, key := range []string{"b", "a", "d", "c", "\xff", "empty"} {
		want[key] = filled(300*i, i)
	}
	want["empty"] = nil
	commit(t, s, want)
	commit(t, s, values{"e": filled(10, 10)})
	want["e"] = filled(10, 10)
	if l, errno := s.Damaged(); len(l) > 0 || errno != api.OK {
		t.Errorf("Damaged: %q, error %d", l, errno)
	}
	begin(t, s, values{"f": filled(10, 10)}, "a")
	// One block after the other, until all are damaged.
	last := 0
	for i := 2; i < 60; i++ {
		d.Spoil(i, i*4, byte(i))
		l := checkDamaged(t, "a store", s, want)
		if len(l) < last {
			t.Errorf("block %d: Damaged %q", i, l)
		}
		last = len(l)
	}
	if l, _ := s.Damaged(); !slices.Equal(l, []string{"a", "c", "d", "e", "\xff"}) {
		t.Errorf("Damaged: %q", l)
	}
	// What is put anew is not damaged any more, and what is gone neither.
	checkErrno(t, "Put", s.Put("c", want["c"]), api.OK)
	checkErrno(t, "Commit", s.Commit(), api.OK)
	if l, _ := s.Damaged(); !slices.Equal(l, []string{"d", "e", "\xff"}) {
		t.Errorf("Damaged behind a commit: %q", l)
	}
	r := open(t, d)
	if l, _ := r.Damaged(); !slices.Equal(l, []string{"d", "e", "\xff"}) {
		t.Errorf("Damaged of an opened store: %q", l)
	}
}

// A spoilt block that is written anew is as good as any other.
func TestWrittenOver(t *testing.T) {
	d, s := made(t, 12)
	for i := range 20 {
		for block := range 12 {
			d.Spoil(block, i, 1)
		}
		want := values{"a": filled(700, i)}
		commit(t, s, want)
		checkState(t, "behind a commit", s, i+1, want)
	}
}

// P5.12: what Open has found stays, also if a later state is there whose root or index is damaged.

// lostStates calls try with disks that have the states 1 and 2, of which the latter one is damaged.
func lostStates(t *testing.T, before, after values, try func(c *store.Disk)) {
	t.Helper()
	d, s := made(t, 16)
	commit(t, s, before)
	commit(t, s, after)
	tries := 0
	for i := range 16 {
		c := d.Copy()
		c.Spoil(i, 0, 1)
		if r, errno := store.Open(c); errno == api.OK && r.Generation() == 1 {
			try(c)
			tries++
		}
	}
	if tries != 2 {
		t.Errorf("%d disks have lost a state", tries)
	}
}

func TestLostStateStaysLost(t *testing.T) {
	before, after := values{"a": filled(300, 1)}, values{"a": filled(300, 2)}
	lostStates(t, before, after, func(d *store.Disk) {
		// The same commit again, so that the same bytes may come to the same places, and another one.
		for _, next := range []values{after, {"a": filled(300, 3)}} {
			downs(t, d, stage{puts: next}, func(d *store.Disk, errno api.Errno) {
				for _, keep := range every(d.Pending()) {
					c := d.Copy()
					c.Crash(keep)
					r := open(t, c)
					if errno == api.OK || r.Generation() == 2 {
						checkState(t, "behind the commit", r, 2, next)
					} else {
						checkState(t, "before the commit", r, 1, before)
					}
				}
			})
		}
		d.Crash(nil)
		checkState(t, "behind a crash", open(t, d), 1, before)
		s := open(t, d)
		for i := range 5 {
			next := values{"a": filled(300, 5+i)}
			commit(t, s, next)
			checkState(t, "behind a commit", open(t, d), 2+i, next)
		}
	})
}

// The damage of a later state is undone when its blocks have been used by a commit that went down.
func TestLostStateIsNotMended(t *testing.T) {
	before, after, next := values{"a": filled(300, 1)}, values{"a": filled(300, 2)}, values{"a": filled(300, 3)}
	d, s := made(t, 16)
	commit(t, s, before)
	commit(t, s, after)
	for i := range 16 {
		spoil := d.Copy()
		spoil.Spoil(i, 0, 1)
		if r, errno := store.Open(spoil); errno != api.OK || r.Generation() != 1 {
			continue
		}
		downs(t, spoil, stage{puts: next}, func(d *store.Disk, errno api.Errno) {
			if errno == api.OK || d.Pending() > 6 {
				return
			}
			for _, keep := range every(d.Pending()) {
				c := d.Copy()
				c.Crash(keep)
				c.Spoil(i, 0, 1)
				r, errno := store.Open(c)
				if errno != api.OK {
					checkErrno(t, "Open", errno, api.ErrStore)
					continue
				}
				b, errno := r.Get("a")
				if errno != api.ErrStore && (errno != api.OK || !bytes.Equal(b, before["a"]) && !bytes.Equal(b, after["a"]) && !bytes.Equal(b, next["a"])) {
					t.Errorf("block %d: Get: %d bytes, error %d", i, len(b), errno)
				}
			}
		})
	}
}

// Blocks of another place or of another time are not read as data either.

// checkOneOf checks that the disk holds one of the states, which have the generations 0, 1, and so on, with values that may be damaged, or no store.
func checkOneOf(t *testing.T, name string, d *store.Disk, states []values) {
	t.Helper()
	r, errno := store.Open(d)
	if errno != api.OK {
		checkErrno(t, name, errno, api.ErrStore)
		return
	}
	if r.Generation() >= len(states) {
		t.Fatalf("%s: generation %d", name, r.Generation())
	}
	checkDamaged(t, name, r, states[r.Generation()])
}

// history makes commits, and returns the states and copies of the disk with them.
func history(t *testing.T) ([]values, []*store.Disk) {
	d, s := made(t, 14)
	states, disks := []values{nil}, []*store.Disk{d.Copy()}
	for i := range 8 {
		puts := values{"a": filled(300, i)}
		next := values{"a": puts["a"], "b": states[i]["b"]}
		if i%3 == 0 {
			puts["b"] = filled(500, i)
			next["b"] = puts["b"]
		}
		commit(t, s, puts)
		states, disks = append(states, next), append(disks, d.Copy())
	}
	return states, disks
}

func TestMovedBlocks(t *testing.T) {
	states, disks := history(t)
	d := disks[len(disks)-1]
	for i := range 14 {
		for j := range 14 {
			c := d.Copy()
			a, _ := d.Read(i)
			b, _ := d.Read(j)
			write(t, c, j, a)
			checkOneOf(t, "a block twice", c, states)
			write(t, c, i, b)
			checkOneOf(t, "two blocks exchanged", c, states)
		}
	}
	for blocks := 4; blocks < 30; blocks++ {
		c := newDisk(t, blocks)
		for i := range min(blocks, 14) {
			b, _ := d.Read(i)
			write(t, c, i, b)
		}
		checkOneOf(t, "blocks on another disk", c, states)
		if blocks >= 14 {
			checkState(t, "blocks on a greater disk", open(t, c), 8, states[8])
			checkFree(t, "blocks on a greater disk", open(t, c), freeOf(blocks, states[8]))
		}
	}
}

func TestOldBlocks(t *testing.T) {
	states, disks := history(t)
	d := disks[len(disks)-1]
	for _, old := range disks {
		for i := range 14 {
			c := d.Copy()
			b, _ := old.Read(i)
			write(t, c, i, b)
			checkOneOf(t, "an old block", c, states)
			for j := range i {
				c := c.Copy()
				b, _ := old.Read(j)
				write(t, c, j, b)
				checkOneOf(t, "two old blocks", c, states)
			}
		}
	}
}
