package archive_test

import (
	"fmt"
	"testing"

	"arrayarchive/api"
	"arrayarchive/archive"
	"arrayarchive/store"
)

// P9.10

// every returns a list for each choice of n bools, or for many choices of them.
func every(n int) [][]bool {
	r := newRandom(uint64(n))
	var l [][]bool
	for i := range 1 << min(n, 6) {
		keep := make([]bool, n)
		for k := range keep {
			keep[k] = i>>k&1 == 1
			if n > 6 && i < 1<<6-2 {
				keep[k] = r.IntN(2) == 1
			}
			if n > 6 && i == 1<<6-1 {
				keep[k] = true
			}
		}
		l = append(l, keep)
	}
	return l
}

// step is a call that commits, with what is done in front of it.
type step struct {
	name string
	call func(a *archive.Archive) api.Errno
}

// steps returns calls for the archive of old, each for the content that the one in front of it makes.
func steps() []step {
	in := func(do func(a *archive.Archive) api.Errno) func(a *archive.Archive) api.Errno {
		return func(a *archive.Archive) api.Errno {
			for _, call := range []func() api.Errno{a.Begin, func() api.Errno { return do(a) }, a.Commit} {
				if errno := call(); errno != api.OK {
					return errno
				}
			}
			return api.OK
		}
	}
	return []step{
		{"a write", in(func(a *archive.Archive) api.Errno { return a.Write("/a", "v", cuts("1:2:1"), of("2", "8 9")) })},
		{"Upgrade", (*archive.Archive).Upgrade},
		{"a longer dimension", in(func(a *archive.Archive) api.Errno { return a.Change(grow("/", "t", 2)) })},
		{"a new variable", in(func(a *archive.Archive) api.Errno { return a.Change(vari("/a", line("w", 2, "7", rounding("5")))) })},
		{"a note", in(func(a *archive.Archive) api.Errno { return a.SetNote("/a", "w", make([]byte, 500)) })},
		{"nothing", in(func(a *archive.Archive) api.Errno { return api.OK })},
		{"a dropped variable", in(func(a *archive.Archive) api.Errno {
			return a.Change(api.Change{Kind: api.DropVar, Path: "/", Name: "n"})
		})},
		{"Repair", func(a *archive.Archive) api.Errno {
			_, errno := a.Repair()
			return errno
		}},
	}
}

// state returns the generation, the format and all that an archive returns; a chunk may be damaged.
func state(t *testing.T, a *archive.Archive) string {
	t.Helper()
	text := fmt.Sprint(a.Generation(), a.Format())
	if l, _ := a.Damaged(); len(l) > 0 {
		return fmt.Sprint(text, l)
	}
	return text + content(t, a)
}

// downs calls try with copies of a disk: one that has gone down at each call that a step makes, and one that has not.
func downs(t *testing.T, d *store.Disk, s step, try func(c *store.Disk, errno api.Errno)) {
	t.Helper()
	for n := 1; ; n++ {
		c := d.Copy()
		a := open(t, c)
		c.Arm(n)
		errno := s.call(a)
		c.Arm(0)
		if errno == api.OK {
			try(c, errno)
			return
		}
		checkErrno(t, s.name+" that goes down", errno, api.ErrDown)
		checkDead(t, s.name+" that goes down", a)
		if !c.Down() || n > 100 {
			t.Fatalf("%s, armed with %d: error %d", s.name, n, errno)
		}
		try(c, errno)
	}
}

func TestCrash(t *testing.T) {
	d, _ := old(t, 60)
	for _, s := range steps() {
		if s.name == "Repair" {
			put(t, d, map[string][]byte{"1/0": {1, 2, 3}})
		}
		before := state(t, open(t, d))
		next := d.Copy()
		checkErrno(t, s.name, s.call(open(t, next)), api.OK)
		after := state(t, open(t, next))
		old, new := 0, 0
		downs(t, d, s, func(c *store.Disk, errno api.Errno) {
			for _, keep := range every(c.Pending()) {
				c := c.Copy()
				c.Crash(keep)
				switch state(t, open(t, c)) {
				case after:
					new++
				case before:
					old++
					if errno == api.OK {
						t.Errorf("%s had no error, and is lost", s.name)
					}
				default:
					t.Errorf("%s: neither the content before nor behind it", s.name)
				}
			}
		})
		if old == 0 || new == 0 {
			t.Errorf("%s: %d times the content before it, %d times the one behind it", s.name, old, new)
		}
		d = next
	}
}

// A transaction that is not committed is lost.
func TestCrashOfTransaction(t *testing.T) {
	d, a := made(t, 60, 2)
	before := state(t, a)
	begin(t, a)
	write(t, a, "/", "v", "0:3:1", of("3", "1 2 3"))
	change(t, a, vari("/", line("w", 1, "0")))
	if n := d.Pending(); n != 0 {
		t.Errorf("%d writes are pending in a transaction", n)
	}
	d.Crash([]bool{true, true, true, true, true, true})
	b := open(t, d)
	if after := state(t, b); after != before {
		t.Errorf("behind the crash: %s, want %s", after, before)
	}
	checkErrno(t, "Commit", b.Commit(), api.ErrBusy)
	do(t, b, func() { change(t, b, vari("/", line("x", 1, "0"))) })
	checkState(t, "behind the crash", d, "2\n/ v 1 0 -\n/ x 2 0 -\n")
}

// Commits that go down again and again.
func TestCommitAgainAndAgain(t *testing.T) {
	for seed := range uint64(60) {
		r := newRandom(seed)
		d, a := made(t, 16, 2)
		want, count := "-1 -1 -1", 0
		for i := range 30 {
			begin(t, a)
			next := fmt.Sprintf("%d %d %d", i, i+1, i*2)
			write(t, a, "/", "v", "0:3:1", of("3", next))
			d.Arm(r.IntN(14))
			errno := a.Commit()
			d.Arm(0)
			if errno == api.ErrDown {
				keep := make([]bool, 10)
				for k := range keep {
					keep[k] = r.IntN(3) > 0
				}
				d.Crash(keep)
				a = open(t, d)
				if counted(t, a) == count {
					next = want
				}
			} else {
				checkErrno(t, "Commit", errno, api.OK)
			}
			want = next
			if errno == api.OK {
				checkCount(t, "behind a commit", a, "/", "v", count+1)
			}
			count = counted(t, a)
			checkWhole(t, "behind a commit", a, "/", "v", want)
		}
	}
}
