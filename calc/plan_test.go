package calc_test

import (
	"fmt"
	"math"
	"slices"
	"strings"
	"testing"

	"arrayarchive/api"
	"arrayarchive/calc"
)

// cutsOf returns the cuts of a text like 0:2:1 1:3:2, each of which has a start, a count and a step.
func cutsOf(t *testing.T, text string) []api.Cut {
	t.Helper()
	slab := []api.Cut{}
	for word := range strings.FieldsSeq(text) {
		var c api.Cut
		if _, err := fmt.Sscanf(word, "%d:%d:%d", &c.Start, &c.Count, &c.Step); err != nil {
			t.Fatal(err)
		}
		slab = append(slab, c)
	}
	return slab
}

// chunkText returns a text like /a:0.1 for chunks, with single spaces between them.
func chunkText(l []api.Chunk) string {
	var words []string
	for _, c := range l {
		word := strings.TrimSuffix(c.Path, "/") + "/" + c.Name
		for k, i := range c.Index {
			word += []string{":", "."}[min(k, 1)] + fmt.Sprint(i)
		}
		words = append(words, word)
	}
	return strings.Join(words, " ")
}

// P7.5

func TestTile(t *testing.T) {
	s, data := fixed(t)
	for _, x := range []struct{ text, slab, vals string }{
		{"/a", "0:5:1 0:3:1", "1 2 3 4 5 6 7 8 9 10 11 12 13 14 15"},
		{"/a", "1:2:2 0:2:2", "4 6 10 12"},
		{"/a + /w", "4:1:1 2:1:7", "30"},
		{"1.5", "", "3/2"},
		{"sum(/a, t) * /b", "0:2:2", "350 1350"},
		{"window(sum, /v, t, 2)", "2:3:1", "3 3 -5"},
		{"window(sum, /s, t, 3)", "0:2:4", "1 12"},
		{"cycle(sum, /w, t, month)", "0:2:2 1:2:1", "3 4 13 14"},
		{"slice(/w, t, 1, 2, 3)", "1:1:1 0:2:1", "7 10"},
		{"where(/v, /b, /d / /d)", "0:2:3 0:1:1", "10 1"},
		{"/a", "0:0:1 0:3:1", ""},
		{"/a", "5:0:1 3:0:9", ""},
		{"/q", "0:0:1 0:3:1", ""},
		{"count(/q, z)", "0:2:1", "0 0"},
		{"-/a", "0:1:9223372036854775807 0:1:1", "-1"},
	} {
		slab := cutsOf(t, x.slab)
		want := of(shapeOf(slab), x.vals)
		if got, errno := calc.Tile(s, data, x.text, slab); errno != api.OK || !sameArray(got, want) {
			t.Errorf("Tile(%s, %s) = %s, error %d, want %s", x.text, x.slab, showArray(got), errno, x.vals)
		}
	}
}

// notSlabs are no slabs of the shape (5, 3).
func notSlabs(t *testing.T) [][]api.Cut {
	t.Helper()
	l := [][]api.Cut{nil, cutsOf(t, "0:1:1"), cutsOf(t, "0:1:1 0:1:1 0:1:1"), {{}, {}}}
	for _, first := range []string{"-1:1:1", "0:-1:1", "0:1:0", "0:1:-1", "0:0:0", "6:0:1", "5:1:1", "0:6:1", "1:5:1", "0:3:3", "4:2:9223372036854775807", "1:9223372036854775807:1", "9223372036854775807:9223372036854775807:9223372036854775807", "2:9223372036854775807:9223372036854775807"} {
		l = append(l, cutsOf(t, first+" 0:3:1"))
		l = append(l, cutsOf(t, "0:0:1 "+first))
	}
	return append(l, []api.Cut{{Start: math.MinInt, Count: 1, Step: 1}, {Count: 1, Step: 1}}, []api.Cut{{Count: math.MinInt, Step: 1}, {Count: 1, Step: 1}}, []api.Cut{{Count: 1, Step: math.MinInt}, {Count: 1, Step: 1}})
}

func TestNotSlabs(t *testing.T) {
	s, data := fixed(t)
	for i, slab := range notSlabs(t) {
		if a, errno := calc.Tile(s, data, "/a", slab); errno != api.ErrArg || !sameArray(a, api.Array{}) {
			t.Errorf("Tile with %v: %s, error %d", slab, showArray(a), errno)
		}
		if l, errno := calc.Used(s, data, "/a", slab); errno != api.ErrArg || len(l) > 0 {
			t.Errorf("Used with %v: %v, error %d", slab, l, errno)
		}
		// All other errors come before it.
		for text, want := range map[string]api.Errno{"/a +": api.ErrSyntax, "/none": api.ErrNone, "/d + 1": api.ErrMatch} {
			_, errno := calc.Tile(s, data, text, slab)
			if _, usedErrno := calc.Used(s, nil, text, slab); errno != want || usedErrno != want {
				t.Errorf("%d %s: errors %d and %d, want %d", i, text, errno, usedErrno, want)
			}
		}
	}
	if _, errno := calc.Used(s, nil, "1", cutsOf(t, "0:1:1")); errno != api.ErrArg {
		t.Errorf("Used of a number with a cut: error %d", errno)
	}
}

func TestUsed(t *testing.T) {
	s, data := fixed(t)
	times := slices.DeleteFunc(slices.Clone(data), func(d api.Data) bool { return d.Name != "t" })
	for _, x := range []struct{ text, slab, want string }{
		{"1", "", ""},
		{"/c", "", "/c"},
		{"/v", "0:5:1", "/v:0 /v:1 /v:2"},
		{"/v", "1:2:3", "/v:0 /v:2"},
		{"/v", "3:0:1", ""},
		{"/a", "2:1:1 1:2:1", "/a:1.0 /a:1.1"},
		{"/a", "0:5:1 2:1:1", "/a:0.1 /a:1.1 /a:2.1"},
		// operations on elements, where and else
		{"/b + /v", "0:1:1 4:1:1", "/b:0 /v:2"},
		{"/v * /v", "0:1:1", "/v:0"},
		{"slice(/v, t, 0, 1, 1) + slice(/v, t, 4, 1, 1)", "0:1:1", "/v:0 /v:2"},
		{"slice(/v, t, 4, 1, 1) + slice(/v, t, 0, 1, 1)", "0:1:1", "/v:0 /v:2"},
		{"where(1, /s, /k / /k * /s)", "0:1:1", "/k:0 /s:0"},
		{"where(0, /v, /b)", "3:1:1 2:1:1", "/b:1 /v:1"},
		{"else(1, /v)", "1:1:1", "/v:0"},
		{"to(bare(-/d), \"2\")", "1:1:1", "/d:1"},
		{"/g/h/u * /v * bare(/c)", "0:1:1", "/c /v:0 /g/h/u"},
		{"/g/h/b - /w + /g/a", "0:1:1 4:1:1 2:1:1", "/w:2.1 /g/a:2.0 /g/h/b:0.2.1"},
		// along dimensions
		{"sum(/v, t)", "", "/v:0 /v:1 /v:2"},
		{"max(/a, x)", "0:1:1", "/a:0.0 /a:0.1"},
		{"sum(/a, t) + /b", "2:1:1", "/a:0.1 /a:1.1 /a:2.1 /b:1"},
		{"window(sum, /v, t, 2)", "2:1:1", "/v:0 /v:1"},
		{"window(sum, /v, t, 2)", "3:1:1", "/v:1"},
		{"window(sum, /v, t, 1)", "0:2:4", "/v:0 /v:2"},
		{"window(sum, /v, t, 3)", "4:1:1", "/v:1 /v:2"},
		{"window(sum, /v, t, 1000000)", "4:1:1", "/v:0 /v:1 /v:2"},
		{"window(sum, window(sum, /g/a, t, 2), t, 2)", "3:1:1 1:1:1", "/g/a:0.1 /g/a:1.1"},
		{"cycle(sum, /v, t, month)", "0:1:1", "/v:0 /v:2"},
		{"cycle(sum, /v, t, month)", "1:1:1", "/v:1"},
		{"group(sum, /v, t, month)", "0:1:1", "/v:0"},
		{"group(count, /a + /t, t, month)", "3:1:1 0:1:1", "/a:2.0 /t:1"},
		{"group(count, /t, t, month)", "1:2:1", "/t:0 /t:1"},
		{"cycle(sum, slice(/s / /s * /v, t, 0, 3, 2), t, month)", "1:1:1", "/s:0 /v:1"},
		{"slice(/v, t, 1, 2, 3)", "1:1:1", "/v:2"},
		{"slice(slice(/v, t, 1, 4, 1), t, 0, 2, 3)", "0:1:1", "/v:0"},
		// Without an element nothing is used.
		{"/v + /b", "0:0:1 0:3:1", ""},
		{"/v + /b", "0:5:1 0:0:1", ""},
		{"/q + /v", "0:0:1 0:3:1 0:5:1", ""},
		{"sum(/q, z)", "0:3:1", ""},
		{"sum(/q + /v, z)", "0:3:1 0:5:1", ""},
		{"sum(/q + /v, z) + /b", "0:1:1 0:1:1", "/b:0"},
		{"sum(slice(/v, t, 2, 0, 1) * /b, t)", "0:3:1", ""},
	} {
		slab := cutsOf(t, x.slab)
		if got, errno := calc.Used(s, times, x.text, slab); errno != api.OK || chunkText(got) != x.want {
			t.Errorf("Used(%s, %s) = %s, error %d, want %s", x.text, x.slab, chunkText(got), errno, x.want)
		}
	}
}

// P7.6

func TestPlan(t *testing.T) {
	s, data := fixed(t)
	times := slices.DeleteFunc(slices.Clone(data), func(d api.Data) bool { return d.Name != "t" })
	for _, x := range []struct {
		text, sizes, tiles, needs string
		memory, steps             int
	}{
		{"1", "", "", "", 1, 1},
		{"/c", "", "", "/c", 2, 1},
		{"/v", "2", "0:2:1|2:2:1|4:1:1", "/v:0|/v:1|/v:2", 4, 1},
		{"/v", "3", "0:3:1|3:2:1", "/v:0 /v:1|/v:1 /v:2", 7, 1},
		{"/v", "1024", "0:5:1", "/v:0 /v:1 /v:2", 10, 1},
		{"-/v * /v", "4", "0:4:1|4:1:1", "/v:0 /v:1|/v:2", 8, 1},
		{"/q", "1 1", "", "", 0, 1},
		{"/v + sum(/w, t) * /q", "9 2 2", "", "", 0, 2},
		{"sum(/a, t) + /b", "1", "0:1:1|1:1:1|2:1:1", "/a:0.0 /a:1.0 /a:2.0 /b:0|/a:0.0 /a:1.0 /a:2.0 /b:0|/a:0.1 /a:1.1 /a:2.1 /b:1", 13, 2},
		{"/a", "3 2", "0:3:1 0:2:1|0:3:1 2:1:1|3:2:1 0:2:1|3:2:1 2:1:1", "/a:0.0 /a:1.0|/a:0.1 /a:1.1|/a:1.0 /a:2.0|/a:1.1 /a:2.1", 14, 1},
		{"window(mean, cycle(sum, /v, t, month), month, 2)", "2", "0:2:1|2:1:1", "/v:0 /v:1 /v:2|/v:1", 7, 3},
		{"count(sum(group(max, slice(window(min, /a, t, 2), t, 0, 5, 1), t, day), x), day)", "", "", "/a:0.0 /a:0.1 /a:1.0 /a:1.1 /a:2.0 /a:2.1", 16, 5},
		{"max(cycle(sum, /g/a, t, day) + sum(/v, t), day) / mean(/b, x)", "2", "0:2:1", "/b:0 /b:1 /v:0 /v:1 /v:2 /g/a:0.0 /g/a:0.1 /g/a:1.0 /g/a:1.1 /g/a:2.0 /g/a:2.1", 20, 5},
	} {
		plan, errno := calc.PlanOf(s, times, x.text, sizesOf(x.sizes))
		var tiles, needs []string
		for i, tile := range plan.Tiles {
			text := ""
			for _, c := range tile {
				text += fmt.Sprintf(" %d:%d:%d", c.Start, c.Count, c.Step)
			}
			tiles = append(tiles, strings.TrimSpace(text))
			needs = append(needs, chunkText(plan.Needs[i]))
		}
		if errno != api.OK || strings.Join(tiles, "|") != x.tiles || strings.Join(needs, "|") != x.needs || len(plan.Needs) != len(plan.Tiles) || plan.Memory != x.memory || plan.Steps != x.steps {
			t.Errorf("PlanOf(%s, %s) = %q, %q, %d, %d, error %d", x.text, x.sizes, tiles, needs, plan.Memory, plan.Steps, errno)
		}
	}
	// One tile without cuts, and none at all.
	one, _ := calc.PlanOf(s, nil, "1", nil)
	none, _ := calc.PlanOf(s, nil, "/q", []int{1, 1})
	if len(one.Tiles) != 1 || len(one.Needs) != 1 || len(none.Tiles) != 0 || len(none.Needs) != 0 {
		t.Errorf("%v, %v", one, none)
	}
}

// sizesOf returns the numbers of a text.
func sizesOf(text string) []int {
	var l []int
	for word := range strings.FieldsSeq(text) {
		n := 0
		fmt.Sscan(word, &n)
		l = append(l, n)
	}
	return l
}

// notSizes are no sizes of tiles of the shape (5, 3).
func notSizes() [][]int {
	return [][]int{nil, {1}, {1, 1, 1}, {0, 1}, {1, 0}, {-1, 1}, {1, -2}, {1025, 1}, {1, 1025}, {math.MaxInt, 1}, {1, math.MinInt}, make([]int, 2)}
}

func TestNotSizes(t *testing.T) {
	s, data := fixed(t)
	for _, sizes := range notSizes() {
		if plan, errno := calc.PlanOf(s, data, "/a", sizes); errno != api.ErrArg || len(plan.Tiles) > 0 || len(plan.Needs) > 0 || plan.Memory != 0 || plan.Steps != 0 {
			t.Errorf("PlanOf with %v: %v, error %d", sizes, plan, errno)
		}
		if a, errno := calc.Run(s, data, "/a", sizes, []int{0}, 1); errno != api.ErrArg || !sameArray(a, api.Array{}) {
			t.Errorf("Run with %v: %s, error %d", sizes, showArray(a), errno)
		}
		for text, want := range map[string]api.Errno{"/a +": api.ErrSyntax, "/none": api.ErrNone, "/d + 1": api.ErrMatch} {
			_, errno := calc.PlanOf(s, nil, text, sizes)
			if _, runErrno := calc.Run(s, data, text, sizes, nil, 0); errno != want || runErrno != want {
				t.Errorf("%s with %v: errors %d and %d, want %d", text, sizes, errno, runErrno, want)
			}
		}
	}
	for _, sizes := range [][]int{{0, 1}, {1, 1025}, nil} {
		if _, errno := calc.PlanOf(s, nil, "/q", sizes); errno != api.ErrArg {
			t.Errorf("PlanOf of no elements with %v: error %d", sizes, errno)
		}
	}
	if _, errno := calc.PlanOf(s, nil, "1", []int{1}); errno != api.ErrArg {
		t.Errorf("PlanOf of a number with a size: error %d", errno)
	}
}

// P7.7

func TestRunErrors(t *testing.T) {
	s, data := fixed(t)
	sizes := []int{3, 2} // four tiles
	for _, order := range [][]int{nil, {0}, {0, 1, 2}, {0, 1, 2, 3, 4}, {0, 1, 2, 3, 3}, {0, 1, 2, 2}, {1, 2, 3, 4}, {-1, 0, 1, 2}, {0, 0, 0, 0}, {0, 1, 2, math.MaxInt}, {math.MinInt, 1, 2, 3}, upTo(5000)} {
		if a, errno := calc.Run(s, data, "/a", sizes, order, 2); errno != api.ErrArg || !sameArray(a, api.Array{}) {
			t.Errorf("Run with the order %v: %s, error %d", order[:min(9, len(order))], showArray(a), errno)
		}
	}
	for _, workers := range []int{math.MinInt, -1, 0, 9, 100, math.MaxInt} {
		for _, text := range []string{"/a", "/q + 1"} {
			order := []int{3, 1, 0, 2}
			if text != "/a" {
				order = nil
			}
			if a, errno := calc.Run(s, data, text, sizes, order, workers); errno != api.ErrArg || !sameArray(a, api.Array{}) {
				t.Errorf("Run with %d workers: %s, error %d", workers, showArray(a), errno)
			}
		}
	}
	if a, errno := calc.Run(s, data, "/q", sizes, nil, 8); errno != api.OK || !sameArray(a, of([]int{0, 3}, "")) {
		t.Errorf("Run without a tile: %s, error %d", showArray(a), errno)
	}
	if _, errno := calc.Run(s, data, "/q", sizes, []int{0}, 8); errno != api.ErrArg {
		t.Errorf("Run of a tile that is not there: error %d", errno)
	}
	if a, errno := calc.Run(s, data, "/c", nil, []int{0}, 8); errno != api.OK || !sameArray(a, of(nil, "20")) {
		t.Errorf("Run of one element: %s, error %d", showArray(a), errno)
	}
}

// P7.11 with all orders and numbers of workers.

func TestRunOrders(t *testing.T) {
	s, data := fixed(t)
	r := newRandom()
	text := "window(mean, /a * /b, t, 2) + sum(cycle(sum, /w * /v, t, month), month)"
	want, errno := calc.Value(s, data, text)
	if errno != api.OK {
		t.Fatalf("error %d", errno)
	}
	for first := 1; first <= want.Shape[0]+1; first++ {
		for second := 1; second <= want.Shape[1]+1; second++ {
			plan, errno := calc.PlanOf(s, data, text, []int{first, second})
			if errno != api.OK {
				t.Fatalf("error %d", errno)
			}
			for workers := 1; workers <= api.MaxWorkers; workers++ {
				order := r.Perm(len(plan.Tiles))
				if got, errno := calc.Run(s, data, text, []int{first, second}, order, workers); errno != api.OK || !sameArray(got, want) {
					t.Errorf("Run(%d, %d, %v, %d) = %s, error %d", first, second, order, workers, showArray(got), errno)
				}
			}
		}
	}
}
