package lab_test

import (
	"fmt"
	"math/rand/v2"
	"regexp"
	"slices"
	"strconv"
	"strings"
	"testing"

	"arrayarchive/api"
	"arrayarchive/lab"
	"arrayarchive/schema"
	"arrayarchive/store"
)

// P10.8, P10.13: Play beside a reading of its lines by regular expressions, and the calls that they stand for.

// forms are the forms of the lines, without the space behind the first word.
func forms() map[string]*regexp.Regexp {
	const (
		path  = `(/|(?:/[a-z][a-z0-9_]{0,15}){1,4})`
		word  = `([^ ]+)`
		num   = `([0-9]{1,9})`
		shape = `(-|[0-9]{1,9}(?:x[0-9]{1,9})*)`
		slab  = `(-|[0-9]{1,9}:[0-9]{1,9}:[0-9]{1,9}(?:,[0-9]{1,9}:[0-9]{1,9}:[0-9]{1,9})*)`
	)
	out := map[string]*regexp.Regexp{}
	for first, parts := range map[string][]string{
		"group": {path}, "dim": {path, word, num + `( open)?`}, "grow": {path, word, num}, "drop": {path, word}, "name": {path, word, word},
		"attr": {path, word, word, `(.*)`}, "var": {path, `(.+)`}, "write": {path, word, slab, word}, "read": {path, word}, "value": {`(.+)`},
		"derive": {path, word, shape, `(.+)`}, "current": {path, word}, "stale": {}, "refresh": {}, "count": {path, word}, "generation": {},
		"arm": {num}, "crash": {`(-|[01]+)`},
	} {
		out[first] = regexp.MustCompile(`(?s)^` + strings.Join(append([]string{first}, parts...), " ") + `$`)
	}
	return out
}

// actor carries out lines by calls.
type actor struct {
	t     *testing.T
	disk  *store.Disk
	lab   *lab.Lab
	forms map[string]*regexp.Regexp
}

func number(digits string) int {
	n, _ := strconv.Atoi(digits)
	return n
}

func shapeText(shape []int) string {
	if len(shape) == 0 {
		return "-"
	}
	return strings.ReplaceAll(strings.Trim(fmt.Sprint(shape), "[]"), " ", "x")
}

func listText(l []api.Chunk) string {
	if len(l) == 0 {
		return "-"
	}
	return names(l)
}

// variableOf returns the variable of a line, which is built from its parts, and whether it is valid.
func variableOf(line string) (api.Var, bool) {
	const (
		name   = `[a-z][a-z0-9_]*`
		number = `-?[0-9]+(?:/[0-9]+)?`
	)
	form := regexp.MustCompile(`^(` + name + `) (i8|i16|i32|i64|num) \( ((?:` + name + ` )*)\) \( ((?:[1-9][0-9]* )*)\) (none|` + number + `) "([^"]*)"((?: [a-z]+\([0-8],(?:` + number + `)?\))*)$`)
	parts := form.FindStringSubmatch(line)
	if parts == nil {
		return api.Var{}, false
	}
	v := api.Var{Name: parts[1], Type: 1 + slices.Index([]string{"i8", "i16", "i32", "i64", "num"}, parts[2]), Dims: strings.Fields(parts[3]), Chunks: ints(parts[4]), Fill: parts[5], Unit: parts[6]}
	if v.Fill == "none" {
		v.Fill = ""
	}
	for _, stage := range strings.Fields(parts[7]) {
		word, rest, _ := strings.Cut(stage, "(")
		v.Stages = append(v.Stages, api.Stage{Kind: 1 + slices.Index([]string{"round", "delta", "shuffle", "dict", "pack"}, word), N: int(rest[0] - '0'), Step: rest[2 : len(rest)-1]})
	}
	g := api.Group{Path: "/", Vars: []api.Var{v}}
	for _, dim := range slices.Compact(slices.Sorted(slices.Values(v.Dims))) {
		g.Dims = append(g.Dims, api.Dim{Name: dim, Size: 1})
	}
	return v, schema.Valid(api.Schema{Groups: []api.Group{g}})
}

func (a *actor) change(first string, w []string) api.Errno {
	switch first {
	case "group":
		return a.lab.Change(group(w[0]))
	case "dim":
		c := dim(w[0], w[1], number(w[2]))
		c.Dim.Open = w[3] != ""
		return a.lab.Change(c)
	case "grow":
		return a.lab.Change(grow(w[0], w[1], number(w[2])))
	case "drop":
		return a.lab.Change(drop(w[0], w[1]))
	case "name":
		return a.lab.Change(rename(w[0], w[1], w[2]))
	case "attr":
		return a.lab.Change(attr(w[0], w[1], w[2], w[3]))
	}
	v, ok := variableOf(w[1])
	if !ok {
		return api.ErrSyntax
	}
	return a.lab.Change(vari(w[0], v))
}

func (a *actor) write(w []string) api.Errno {
	vals, errno := lab.ReadValues(w[3])
	if errno != api.OK {
		return errno
	}
	slab := cuts(strings.ReplaceAll(strings.Trim(w[2], "-"), ",", " "))
	product, shape := 1, []int{}
	for _, c := range slab {
		product *= c.Count
		shape = append(shape, c.Count)
	}
	if product != len(vals) {
		return api.ErrShape
	}
	return a.lab.Write(w[0], w[1], slab, api.Array{Shape: shape, Vals: vals})
}

func (a *actor) read(w []string) (string, api.Errno) {
	s, errno := a.lab.Archive().Schema()
	if errno != api.OK {
		return "", errno
	}
	shape, errno := schema.Shape(s, w[0], w[1])
	if errno != api.OK {
		return "", errno
	}
	b, errno := a.lab.Archive().Read(w[0], w[1], wholeOf(shape))
	return shapeText(b.Shape) + " " + lab.FormatValues(b.Vals), errno
}

// call returns the answer of a line with these words.
func (a *actor) call(first string, w []string) (string, api.Errno) {
	switch first {
	case "write":
		return "ok", a.write(w)
	case "read":
		return a.read(w)
	case "value":
		s, b, errno := a.lab.Value(w[0])
		dims := strings.Join(s.Dims, ",")
		if dims == "" {
			dims = "-"
		}
		return dims + " " + shapeText(b.Shape) + " " + lab.FormatValues(b.Vals), errno
	case "derive":
		return "ok", a.lab.Derive(w[0], w[1], w[3], ints(strings.ReplaceAll(strings.Trim(w[2], "-"), "x", " ")))
	case "current":
		is, errno := a.lab.Current(w[0], w[1])
		return map[bool]string{true: "yes", false: "no"}[is], errno
	case "stale":
		l, errno := a.lab.Stale()
		return listText(l), errno
	case "refresh":
		l, errno := a.lab.Refresh()
		return listText(l), errno
	case "count":
		n, errno := a.lab.Archive().Count(w[0], w[1])
		return fmt.Sprint(n), errno
	case "generation":
		return fmt.Sprint(a.lab.Archive().Generation()), api.OK
	case "arm":
		a.disk.Arm(number(w[0]))
		return "ok", api.OK
	case "crash":
		var keep []bool
		for _, bit := range strings.Trim(w[0], "-") {
			keep = append(keep, bit == '1')
		}
		a.disk.Crash(keep)
		a.lab = open(a.t, a.disk)
		return "ok", api.OK
	}
	return "ok", a.change(first, w)
}

func (a *actor) answer(line string) (string, bool) {
	first, _, _ := strings.Cut(line, " ")
	form := a.forms[first]
	if form == nil {
		return "error 102", false
	}
	w := form.FindStringSubmatch(line)
	if w == nil {
		return "error 102", false
	}
	answer, errno := a.call(first, w[1:])
	if errno != api.OK {
		return fmt.Sprintf("error %d", errno), true
	}
	return answer, true
}

// someLine returns a line that is mostly a command.
func someLine(r *rand.Rand) string {
	path := pick(r, []string{"/", "/", "/", "/a"})
	name := pick(r, []string{"v", "v", "w", "x", "y"})
	operand := func() string {
		return pick(r, []string{"/v", "/v", "/w", "/a/v", "/x", "/y", "2"})
	}
	expr := pick(r, []string{operand() + " + " + operand(), "sum(" + operand() + ", t)", operand() + "*" + operand(), "window(mean, " + operand() + ", t, 2)"})
	switch r.IntN(24) {
	case 0:
		return "group " + pick(r, []string{"/a", "/b", "/a/c"})
	case 1:
		return "dim " + path + " " + pick(r, []string{"t", "s"}) + " " + pick(r, []string{"2", "03", "2 open"})
	case 2, 3:
		return "grow / t " + pick(r, []string{"0", "1", "1"})
	case 4:
		return "drop " + path + " " + name
	case 5:
		return "name " + path + " " + name + " " + pick(r, []string{"w", "x", "z"})
	case 6:
		return "attr " + path + " " + name + " a " + pick(r, []string{"", "text", " a  b "})
	case 7, 8:
		v := over(name, pick(r, []int{api.TypeI8, api.TypeNum}), "", pick(r, [][]string{nil, {"t"}, {"t", "s"}})...)
		v.Fill = pick(r, []string{"", "1"})
		return "var " + lab.Line(path, v)
	case 9, 10, 11:
		return "write " + path + " " + name + " " + pick(r, []string{"0:2:1 1,2", "1:1:1 _", "0:2:1 5,0", "- 3", "0:1:1,0:2:1 1,2", "0:0:1 -", "0:2:1 1", "0:1:1 x", "0:1:1 200"})
	case 12:
		return "read " + path + " " + name
	case 13:
		return "value " + expr
	case 14, 15, 16:
		return "derive " + path + " " + name + " " + pick(r, []string{"-", "2", "2", "1x1"}) + " " + expr
	case 17:
		return "current " + path + " " + name
	case 18:
		return "stale"
	case 19:
		return "refresh"
	case 20:
		return "count " + path + " " + name
	case 21:
		return "generation"
	case 22:
		return "arm " + pick(r, []string{"0", "1", "3", "9"})
	}
	return "crash " + pick(r, []string{"-", "1", "0101", "1111111", "0"})
}

// spoilt returns a line with some bytes changed.
func spoilt(r *rand.Rand, line string) string {
	for range 1 + r.IntN(2) {
		at := r.IntN(len(line) + 1)
		behind := at
		if at < len(line) {
			behind += r.IntN(2)
		}
		line = line[:at] + pick(r, []string{"", " ", " ", "-", "1", "x", "/", ":", ",", "open", "\n", "0"}) + line[behind:]
	}
	return line
}

func TestScripts(t *testing.T) {
	commands, errors, all := 0, map[string]int{}, forms()
	for seed := range uint64(120) {
		r := newRandom(seed)
		d := newDisk(t, 300)
		a := &actor{t, d, create(t, d), all}
		lines := []string{"dim / t 2 open", "dim / s 2", "var / v num ( t ) ( 2 ) 0 \"\"", "write / v 0:2:1 1,2", "group /a"}
		for len(lines) < 100 {
			line := someLine(r)
			if r.IntN(3) == 0 {
				line = spoilt(r, line)
			}
			lines = append(lines, line)
		}
		answers, errno := lab.Play(300, lines)
		if errno != api.OK || len(answers) != len(lines) {
			t.Fatalf("Play: %d answers, error %d", len(answers), errno)
		}
		for i, line := range lines {
			before, n := "", a.lab.Archive().Generation()
			if !d.Down() {
				before = state(t, a.lab)
			}
			want, isCommand := a.answer(line)
			if answers[i] != want {
				t.Fatalf("the seed is %d, line %d, %q: %q, want %q", seed, i, line, answers[i], want)
			}
			if isCommand {
				commands++
			}
			if !strings.HasPrefix(want, "error") {
				continue
			}
			errors[want]++
			if !d.Down() && line != "refresh" && (state(t, a.lab) != before || a.lab.Archive().Generation() != n) {
				t.Errorf("the seed is %d, line %d, %q: an error with an effect", seed, i, line)
			}
		}
	}
	for _, want := range []string{"error 3", "error 30", "error 31", "error 32", "error 50", "error 60", "error 61", "error 71", "error 100", "error 102"} {
		if errors[want] < 5 {
			t.Errorf("%s: %d times", want, errors[want])
		}
	}
	if commands < 5000 {
		t.Errorf("%d commands", commands)
	}
}
