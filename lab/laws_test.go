package lab_test

import (
	"fmt"
	"slices"
	"testing"

	"arrayarchive/api"
	"arrayarchive/array"
	"arrayarchive/lab"
)

// somePipeline returns stages without StageRound.
func somePipeline(n int) []api.Stage {
	all := []api.Stage{{Kind: api.StageDelta, N: 2}, {Kind: api.StageShuffle, N: 3}, {Kind: api.StagePack, N: 1}, {Kind: api.StageDict}}
	return append(slices.Clone(all[n%4:]), all[:n%4]...)[:n%5]
}

// laid returns a lab with the variables a and b over x and y, whose chunks and stages depend on n; their elements are written in an order that does.
func laid(t *testing.T, n int, a, b api.Array) *lab.Lab {
	t.Helper()
	r := newRandom(uint64(n))
	l := create(t, newDisk(t, 1000))
	change(t, l, dim("/", "x", 3))
	change(t, l, dim("/", "y", 4))
	for name, whole := range map[string]api.Array{"a": a, "b": b} {
		v := api.Var{Name: name, Type: api.TypeNum, Dims: []string{"x", "y"}, Chunks: []int{1 + r.IntN(4), 1 + r.IntN(5)}, Stages: somePipeline(n)}
		change(t, l, vari("/", v))
		// Elements in any order, some of them written before with other values, or in a larger slab.
		for range r.IntN(4) {
			slab := someSlab(r, whole.Shape)
			checkErrno(t, "Write", l.Write("/", name, slab, someArray(r, slab)), api.OK)
		}
		if n%3 == 0 {
			checkErrno(t, "Write", l.Write("/", name, wholeOf(whole.Shape), whole), api.OK)
		}
		for _, i := range r.Perm(12) {
			slab := []api.Cut{{Start: i / 4, Count: 1, Step: 1}, {Start: i % 4, Count: 1, Step: 1}}
			part, errno := array.Slice(whole, slab)
			checkErrno(t, "Slice", errno, api.OK)
			checkErrno(t, "Write", l.Write("/", name, slab, part), api.OK)
		}
	}
	return l
}

// P10.12: a value does not depend on chunks, on stages without StageRound, and on the order of writes.
func TestOneValue(t *testing.T) {
	texts := []string{"/a", "/a + /b", "sum(/a, x) * mean(/b, y)", "window(max, /a - /b, y, 2)", "slice(/a, y, 1, 2, 2) / 3", "else(/a, /b)", "where(/a, /b, 1/2)", "count(sum(/a, x), y)"}
	for seed := range uint64(6) {
		r := newRandom(seed)
		a, b := someArray(r, cuts("0:3:1 0:4:1")), someArray(r, cuts("0:3:1 0:4:1"))
		want := ""
		for n := range 9 {
			l := laid(t, n, a, b)
			got := ""
			for _, text := range texts {
				s, x, errno := l.Value(text)
				got += fmt.Sprintln(text, s, x, errno)
			}
			derive(t, l, "/", "d", "/a * 2 - /b", 1+n%3, 1+n%4)
			got += read(t, l, "/", "d")
			if want == "" {
				want = got
			}
			if got != want {
				t.Errorf("laid out as %d: %s, want %s", n, got, want)
			}
		}
	}
}

// P10.10: when the values of the ordinary variables are what they were, each derived variable is current exactly if it was.
func TestThereAndBack(t *testing.T) {
	changed := 0
	for seed := range uint64(40) {
		r := newRandom(seed)
		_, l := made(t, 400)
		stack(t, l)
		derive(t, l, "/", "n", "/v * /a/w", 2)
		for range r.IntN(3) {
			write(t, l, "/", "v", "1:1:1", of("1", pick(r, []string{"_", "5"})))
			write(t, l, "/a", "w", "", of("", pick(r, []string{"7", "8"})))
		}
		data, errno := l.Archive().Data()
		checkErrno(t, "Data", errno, api.OK)
		before, errno := l.Stale()
		checkErrno(t, "Stale", errno, api.OK)
		for range 3 {
			slab := someSlab(r, []int{3})
			checkErrno(t, "Write", l.Write("/", "v", slab, someArray(r, slab)), api.OK)
			checkErrno(t, "Write", l.Write("/a", "w", nil, someArray(r, nil)), api.OK)
			now, _ := l.Stale()
			if names(now) != names(before) {
				changed++
			}
		}
		for _, x := range data {
			if _, errno := l.Info(x.Path, x.Name); errno == api.ErrDerived {
				checkErrno(t, "Write back", l.Write(x.Path, x.Name, wholeOf(x.A.Shape), x.A), api.OK)
			}
		}
		checkList(t, "there and back", l.Stale, names(before), api.OK)
	}
	if changed < 10 {
		t.Errorf("another variable was stale in between %d times", changed)
	}
}

// P10.9, P10.10: what Refresh leaves is current, or has no result that fits.
func TestRefreshIsWhole(t *testing.T) {
	_, l := made(t, 400)
	stack(t, l)
	change(t, l, dim("/", "month", 2))
	derive(t, l, "/", "by_month", "cycle(sum, /v, t, month)", 1)
	derive(t, l, "/", "part", "/by_month / sum(/v, t)", 1)
	derive(t, l, "/", "unit", "/v * 2", 1)
	checkList(t, "behind Derive", l.Stale, "", api.OK)
	write(t, l, "/", "v", "1:1:1", of("1", "6"))
	checkList(t, "another v", l.Refresh, "/:by_month /:part /:s /:unit /b:x /b:y", api.OK)
	checkRead(t, "another v", l, "/", "by_month", "1 9")
	checkRead(t, "another v", l, "/", "part", "1/10 9/10")
	// A third month does not fit; what is made of the old ones is computed with them.
	write(t, l, "/", "t", "2:1:1", of("1", "60"))
	write(t, l, "/", "v", "0:1:1", of("1", "11"))
	checkList(t, "a third month", l.Refresh, "/:part /:s /:unit /b:x /b:y", api.OK)
	checkRead(t, "a third month", l, "/", "by_month", "1 9")
	checkRead(t, "a third month", l, "/", "part", "1/20 9/20")
	checkList(t, "a third month", l.Stale, "/:by_month", api.OK)
	checkList(t, "a third month", l.Refresh, "", api.OK)
	change(t, l, drop("/", "v"))
	change(t, l, vari("/", over("v", api.TypeNum, "m", "t")))
	checkList(t, "v in another unit", l.Stale, "/:by_month /:part /:s /:unit", api.OK)
	checkList(t, "v in another unit", l.Refresh, "", api.OK)
}
