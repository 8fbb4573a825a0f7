package store_test

import (
	"bytes"
	"testing"

	"arrayarchive/api"
	"arrayarchive/store"
)

// P5.9 and P5.12

// stage is a commit, with the state that it makes.
type stage struct {
	puts    values
	deletes []string
	want    values
}

// stages returns commits, each of the state that the one in front of it makes.
func stages() []stage {
	one, two, three := filled(300, 1), filled(500, 2), filled(239, 3)
	return []stage{
		{nil, nil, nil},
		{values{"a": one}, nil, values{"a": one}},
		{values{"a": two, "b": three}, nil, values{"a": two, "b": three}},
		{values{"c": one}, []string{"b"}, values{"a": two, "c": one}},
		{nil, nil, values{"a": two, "c": one}},
		{values{"a": two}, nil, values{"a": two, "c": one}},
		{nil, []string{"a", "c"}, nil},
	}
}

// downs calls try with copies of a disk: one that has gone down at each call that a commit makes, and one that has not.
func downs(t *testing.T, d *store.Disk, next stage, try func(d *store.Disk, errno api.Errno)) {
	for n := 1; ; n++ {
		c := d.Copy()
		s := open(t, c)
		begin(t, s, next.puts, next.deletes...)
		c.Arm(n)
		errno := s.Commit()
		if errno == api.OK {
			c.Arm(0)
			try(c, errno)
			return
		}
		checkErrno(t, "Commit that goes down", errno, api.ErrDown)
		checkDead(t, "behind it", s)
		if !c.Down() || n > 100 {
			t.Fatalf("Commit, armed with %d", n)
		}
		try(c, errno)
	}
}

func TestCrashOfCommit(t *testing.T) {
	l := stages()
	d, s := made(t, 14)
	for at, next := range l[1:] {
		before, after := l[at], next
		downs(t, d, next, func(d *store.Disk, errno api.Errno) {
			for _, keep := range every(d.Pending()) {
				c := d.Copy()
				c.Crash(keep)
				r := open(t, c)
				if errno == api.OK || r.Generation() == at+1 {
					checkState(t, "behind the commit", r, at+1, after.want)
					checkFree(t, "behind the commit", r, freeOf(14, after.want))
				} else {
					checkState(t, "before the commit", r, at, before.want)
					checkFree(t, "before the commit", r, freeOf(14, before.want))
				}
				// The state that was found stays, if a further commit does not come far.
				generation, want := r.Generation(), before.want
				if generation == at+1 {
					want = after.want
				}
				begin(t, r, values{"x": filled(400, 4)})
				c.Arm(1 + len(keep)%3)
				checkErrno(t, "a further commit", r.Commit(), api.ErrDown)
				for _, keep := range [][]bool{nil, {true}, {true, true}} {
					c := c.Copy()
					c.Crash(keep)
					checkState(t, "behind a further commit", open(t, c), generation, want)
				}
			}
		})
		commit(t, s, next.puts, next.deletes...)
	}
}

// A transaction that is not committed is lost.
func TestCrashOfTransaction(t *testing.T) {
	d, s := made(t, 14)
	commit(t, s, values{"a": filled(300, 1)})
	begin(t, s, values{"a": nil, "b": nil})
	d.Crash([]bool{true, true, true, true, true, true, true, true})
	r := open(t, d)
	checkState(t, "behind the crash", r, 1, values{"a": filled(300, 1)})
	checkErrno(t, "Commit", r.Commit(), api.ErrBusy)
}

// A commit that went down is made again, with other values of the same size, and goes down again.
func TestCommitAgainAndAgain(t *testing.T) {
	for seed := range uint64(300) {
		r := newRandom(seed)
		d, s := made(t, 10+r.IntN(4))
		generation, want := 0, values{}
		for i := range 30 {
			next := values{"a": filled(400, i), "b": want["b"]}
			puts := values{"a": next["a"]}
			if r.IntN(2) == 0 || generation == 0 {
				next["b"] = filled(200, i)
				puts["b"] = next["b"]
			}
			begin(t, s, puts)
			d.Arm(r.IntN(12))
			errno := s.Commit()
			if errno == api.OK {
				generation, want = generation+1, next
				d.Arm(0)
				checkState(t, "behind a commit", s, generation, want)
			}
			if errno == api.ErrDown || r.IntN(3) == 0 {
				d.Crash(pick(r, every(8)))
				s = open(t, d)
				if errno == api.ErrDown && s.Generation() == generation+1 {
					generation, want = generation+1, next
				}
				checkState(t, "behind a crash", s, generation, want)
			}
			if errno == api.ErrFull {
				t.Fatal("too few blocks")
			}
		}
	}
}

// Equal calls write equal bytes, in the same order.
func TestEqualStores(t *testing.T) {
	var first []byte
	for range 20 {
		d, s := made(t, 100)
		puts := values{}
		for i := range 12 {
			puts[key(i)] = filled(i*40, i)
		}
		commit(t, s, puts)
		commit(t, s, values{key(3): nil}, key(4))
		begin(t, s, puts)
		d.Arm(15)
		checkErrno(t, "Commit", s.Commit(), api.ErrDown)
		d.Crash([]bool{true, false, true, true, false, true, true})
		if all := read(t, d); first == nil {
			first = all
		} else if !bytes.Equal(all, first) {
			t.Fatal("equal calls have made different disks")
		}
	}
}
