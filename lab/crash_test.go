package lab_test

import (
	"slices"
	"testing"

	"arrayarchive/api"
	"arrayarchive/lab"
	"arrayarchive/store"
)

// P10.11

// every returns a list for each choice of n bools, or for many choices of them.
func every(n int) [][]bool {
	r := newRandom(uint64(n))
	var l [][]bool
	for i := range 1 << min(n, 5) {
		keep := make([]bool, n)
		for k := range keep {
			keep[k] = i>>k&1 == 1
			if n > 5 && i < 1<<5-2 {
				keep[k] = r.IntN(2) == 1
			}
			if n > 5 && i == 1<<5-1 {
				keep[k] = true
			}
		}
		l = append(l, keep)
	}
	return l
}

// step is a call that commits.
type step struct {
	name string
	call func(l *lab.Lab) api.Errno
}

func refresh(l *lab.Lab) api.Errno {
	_, errno := l.Refresh()
	return errno
}

// stacked returns a disk with a lab in which four derived variables are stale.
func stacked(t *testing.T) *store.Disk {
	t.Helper()
	d, l := made(t, 120)
	stack(t, l)
	write(t, l, "/", "v", "0:3:1", of("3", "5 6 7"))
	write(t, l, "/a", "w", "", of("", "2"))
	checkList(t, "stacked", l.Stale, "/:c /:s /b:y", api.OK)
	return d
}

// states returns the contents that a call makes, one behind each of its commits, with the one before it at the beginning.
func states(t *testing.T, d *store.Disk, s step) []string {
	t.Helper()
	last := d.Copy()
	l := open(t, last)
	checkErrno(t, s.name, s.call(l), api.OK)
	n := l.Archive().Generation()
	var out []string
	for k := 1; len(out) <= n-open(t, d.Copy()).Archive().Generation() && k < 200; k++ {
		// All writes remain, so that what is found is the content of the last commit.
		c := d.Copy()
		l := open(t, c)
		c.Arm(k)
		s.call(l)
		c.Crash(slices.Repeat([]bool{true}, 100))
		if text := state(t, open(t, c)); !slices.Contains(out, text) {
			out = append(out, text)
		}
	}
	return out
}

func TestCrash(t *testing.T) {
	d := stacked(t)
	for _, s := range []step{
		{"Write", func(l *lab.Lab) api.Errno { return l.Write("/", "v", cuts("1:2:1"), of("2", "8 9")) }},
		{"Change", func(l *lab.Lab) api.Errno { return l.Change(grow("/", "t", 1)) }},
		{"Derive", func(l *lab.Lab) api.Errno { return l.Derive("/b", "z", "/v * /a/w", []int{1}) }},
		{"Refresh", refresh},
	} {
		wanted := states(t, d, s)
		next := d.Copy()
		checkErrno(t, s.name, s.call(open(t, next)), api.OK)
		if n := len(wanted); s.name == "Refresh" && n != 5 || s.name != "Refresh" && n != 2 || wanted[n-1] != state(t, open(t, next)) {
			t.Fatalf("%s makes %d contents", s.name, n)
		}
		found := map[string]int{}
		for k := 1; ; k++ {
			c := d.Copy()
			l := open(t, c)
			c.Arm(k)
			errno := s.call(l)
			if errno == api.OK {
				break
			}
			checkErrno(t, s.name+" that goes down", errno, api.ErrDown)
			checkDead(t, s.name+" that goes down", l)
			for _, keep := range every(c.Pending()) {
				c := c.Copy()
				c.Crash(keep)
				text := state(t, open(t, c))
				if !slices.Contains(wanted, text) {
					t.Errorf("%s, armed with %d: a content that no commit has made: %s", s.name, k, text)
				}
				found[text]++
				if s.name == "Refresh" {
					checkRefreshed(t, c, next)
				}
			}
		}
		for i, text := range wanted {
			if found[text] == 0 {
				t.Errorf("%s: the content %d was never found", s.name, i)
			}
		}
		d = next
	}
}

// checkRefreshed checks that a further Refresh leads to the same values as one without a crash.
func checkRefreshed(t *testing.T, c, whole *store.Disk) {
	t.Helper()
	l := open(t, c)
	checkErrno(t, "a further Refresh", refresh(l), api.OK)
	if got, want := values(t, l), values(t, open(t, whole.Copy())); got != want {
		t.Errorf("a further Refresh: %s, want %s", got, want)
	}
	checkList(t, "behind a further Refresh", l.Stale, "", api.OK)
}

// Refreshes that go down again and again get on.
func TestRefreshAgainAndAgain(t *testing.T) {
	for seed := range uint64(40) {
		r := newRandom(seed)
		d := stacked(t)
		whole := d.Copy()
		checkErrno(t, "Refresh", refresh(open(t, whole)), api.OK)
		for range 30 {
			l := open(t, d)
			d.Arm(1 + r.IntN(25))
			errno := refresh(l)
			d.Arm(0)
			if errno == api.OK {
				break
			}
			checkErrno(t, "Refresh", errno, api.ErrDown)
			keep := make([]bool, r.IntN(12))
			for k := range keep {
				keep[k] = r.IntN(2) == 1
			}
			d.Crash(keep)
		}
		checkRefreshed(t, d, whole)
	}
}

// A crash during a transaction that was not committed leaves nothing of it.
func TestCrashOfNothing(t *testing.T) {
	d := stacked(t)
	before := state(t, open(t, d))
	l := open(t, d)
	checkErrno(t, "Derive", l.Derive("/b", "y", "/v", []int{1}), api.ErrExists)
	checkErrno(t, "Derive", l.Derive("/b", "z", "/v", []int{0}), api.ErrSchema)
	if d.Pending() > 0 {
		t.Error("a Derive with an error writes")
	}
	d.Crash([]bool{true, true, true})
	if after := state(t, open(t, d)); after != before {
		t.Errorf("behind the crash: %s, want %s", after, before)
	}
}
