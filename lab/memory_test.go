package lab_test

import (
	"fmt"
	"slices"
	"testing"

	"arrayarchive/api"
	"arrayarchive/lab"
)

// R4

// Results are new memory.
func TestResultsAreNew(t *testing.T) {
	_, l := made(t, 200)
	derive(t, l, "/", "m", "/v * /a/w", 2)
	write(t, l, "/", "v", "0:1:1", of("1", "2"))
	before := state(t, l)
	for range 2 {
		s, a, errno := l.Value("/v")
		checkErrno(t, "Value", errno, api.OK)
		if fmt.Sprint(s.Dims, s.Sizes, a.Shape, a.Vals) != "[t] [3] [3] [2  3]" {
			t.Errorf("Value: %v, %v", s, a)
		}
		s.Sizes[0] = 9
		if a.Shape[0] != 3 {
			t.Error("the sizes and the shape share memory")
		}
		s.Dims[0], a.Shape[0], a.Vals[0] = "x", 9, "9"
		info, errno := l.Info("/", "m")
		checkErrno(t, "Info", errno, api.OK)
		if fmt.Sprint(info) != "{/v * /a/w [{/ v 1} {/a w 1}]}" {
			t.Errorf("Info: %v", info)
		}
		info.Sources[0].Name = "x"
		for _, call := range []func() ([]api.Chunk, api.Errno){l.Stale, l.Order} {
			c, errno := call()
			if names(c) != "/:m" || errno != api.OK {
				t.Fatalf("%v, error %d", c, errno)
			}
			c[0].Name = "x"
		}
		if after := state(t, l); after != before {
			t.Errorf("a result was changed: %s, want %s", after, before)
		}
	}
	vals := []string{"1", ""}
	lab.FormatValues(vals)
	line := over("v", api.TypeI8, "", "b", "a")
	line.Attrs = []api.Attr{{Name: "x"}}
	lab.Line("/", line)
	if !slices.Equal(vals, []string{"1", ""}) || !slices.Equal(line.Dims, []string{"b", "a"}) || len(line.Attrs) != 1 {
		t.Errorf("arguments were changed: %q, %+v", vals, line)
	}
}

// Arguments are neither changed nor kept, and the memory behind their ends is not used.
func TestArguments(t *testing.T) {
	_, l := made(t, 200)
	v := over("x", api.TypeI16, "", "t")
	v.Dims = append(v.Dims, "behind")[:1]
	v.Chunks = append(v.Chunks, 7)[:1]
	slab := append(cuts("0:2:1"), api.Cut{Start: 77})[:1]
	b := api.Array{Shape: append([]int{2}, 77)[:1], Vals: append([]string{"7", "8"}, "behind")[:2]}
	chunks := append([]int{2}, 77)[:1]
	text := func() string {
		return fmt.Sprint(v, v.Dims[:2], v.Chunks[:2], slab[:2], b, b.Shape[:2], b.Vals[:3], chunks[:2])
	}
	before := text()
	change(t, l, vari("/", v))
	checkErrno(t, "Write", l.Write("/", "x", slab, b), api.OK)
	derive(t, l, "/", "d", "/x", chunks...)
	lines := append([]string{"generation"}, "what")[:1]
	answers, errno := lab.Play(30, lines)
	if len(answers) != 1 || answers[0] != "1" || errno != api.OK {
		t.Errorf("Play: %q, error %d", answers, errno)
	}
	answers[0] = "x"
	if after := text(); after != before || lines[0] != "generation" || lines[:2][1] != "what" {
		t.Errorf("arguments were changed: %s, want %s", after, before)
	}
	want := state(t, l)
	v.Dims[0], v.Chunks[0], slab[0], b.Vals[0], b.Shape[0], chunks[0] = "x", 9, api.Cut{}, "9", 9, 9
	if got := state(t, l); got != want {
		t.Errorf("arguments are kept: %s, want %s", got, want)
	}
	checkList(t, "behind the calls", l.Stale, "", api.OK)
}

// Equal calls give equal results, however often they are made.
func TestEqualResults(t *testing.T) {
	want := ""
	for range 20 {
		_, l := made(t, 200)
		stack(t, l)
		write(t, l, "/", "v", "0:1:1", of("1", "2"))
		order, _ := l.Order()
		stale, _ := l.Stale()
		written, _ := l.Refresh()
		got := fmt.Sprintln(order, stale, written) + state(t, l)
		if want == "" {
			want = got
		}
		if got != want {
			t.Fatalf("%s, want %s", got, want)
		}
	}
}
