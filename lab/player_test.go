package lab

import (
	"testing"

	"arrayarchive/api"
	"arrayarchive/store"
)

// P10.8: behind an Open with an error, every line but `crash` and `arm` answers ErrDown, until an Open has none. No script comes to this, as each crash leaves a store.
func TestNoOpen(t *testing.T) {
	d, _ := store.NewDisk(30)
	l, errno := Create(d)
	if errno != api.OK {
		t.Fatalf("Create: error %d", errno)
	}
	p := player{d, l}
	roots := [2][]byte{}
	for i := range roots {
		roots[i], _ = d.Read(i)
		d.Write(i, make([]byte, api.MaxBlock))
	}
	d.Sync()
	check := func(line, want string) {
		t.Helper()
		if got := p.answer(line); got != want {
			t.Errorf("%q: %q, want %q", line, got, want)
		}
	}
	check("generation", "1")
	check("crash -", "error 53")
	for _, line := range []string{"generation", "stale", "refresh", "value 1", "value +", "read / v", "count / v", "current / v", "group /a", "dim / t 1", "grow / t 1", "drop / v", "name / v w", "attr / v a text", "var / v num ( ) ( ) none \"\"", "write / v - 1", "derive / v - 1"} {
		check(line, "error 50")
	}
	check("what", "error 102")
	check("generation 1", "error 102")
	check("arm 0", "ok")
	check("crash 1", "error 53")
	check("generation", "error 50")
	for i, b := range roots {
		d.Write(i, b)
	}
	d.Sync()
	check("generation", "error 50")
	check("crash -", "ok")
	check("generation", "1")
	check("group /a", "ok")
}
