package calc_test

import (
	"fmt"
	"slices"
	"strings"
	"testing"

	"arrayarchive/api"
	"arrayarchive/calc"
)

// the17 is a word of 17 bytes, one more than a name may have.
const the17 = "abcdefghijklmnopq"

// formats are texts of expressions, and what Format returns of them.
var formats = map[string]string{
	// numbers
	"1": "1", "007": "007", "1.50": "1.50", "0.0": "0.0", " 1 ": "1", "  12.5  ": "12.5",
	// variables
	"/a": "/a", "/a/b/c/d/e": "/a/b/c/d/e", "/a1_/b_2": "/a1_/b_2", "/" + the17[:16]: "/" + the17[:16], "/sum": "/sum", "/a/sum": "/a/sum",
	// a `/` behind an operand divides, unless it makes a variable longer
	"/a/2": "/a / 2", "/a//b": "/a / /b", "/a/ /b": "/a / /b", "/a /(1)": "/a / 1", "/a/(1)": "/a / 1", "/a/b/c/d/e/2": "/a/b/c/d/e / 2", "1//a": "1 / /a", "1/2/3": "1 / 2 / 3", "1/sum(/a,t)": "1 / sum(/a, t)", "/a /sum(/b,t)": "/a / sum(/b, t)", "/a/ sum(/b,t)": "/a / sum(/b, t)", "(/a)/sum(/b,t)": "/a / sum(/b, t)", "sum(/a,t)/sum(/b,t)": "sum(/a, t) / sum(/b, t)", "/a/-/b": "/a / -/b", "/a/b/c/d/e/sum(1,t)": "/a/b/c/d/e / sum(1, t)", "/a/b/c/d/e//f": "/a/b/c/d/e / /f",
	// signs in front
	"-1": "-1", "- 1": "-1", "--1": "--1", "- - 1": "--1", "1--1": "1 - -1", "1 - - -1": "1 - --1", "1+-1": "1 + -1", "-1+2": "-1 + 2", "-1*2": "-1 * 2", "-(1*2)": "-(1 * 2)", "-(1)": "-1", "-(-1)": "--1", "(-1)*2": "-1 * 2", "2*(-1)": "2 * -1", "2*-1*3": "2 * -1 * 3", "2/-(1/3)": "2 / -(1 / 3)", "-(1+2)": "-(1 + 2)", "(-1)+2": "-1 + 2", "1-(-2)": "1 - -2", "-sum(1,t)": "-sum(1, t)",
	// from left to right
	"1+2+3": "1 + 2 + 3", "(1+2)+3": "1 + 2 + 3", "1+(2+3)": "1 + (2 + 3)", "1-(2-3)": "1 - (2 - 3)", "1-(2+3)": "1 - (2 + 3)", "1-2+3": "1 - 2 + 3", "(1-2)+3": "1 - 2 + 3", "1+(2-3)": "1 + (2 - 3)", "1*2*3": "1 * 2 * 3", "1*(2*3)": "1 * (2 * 3)", "1/(2/3)": "1 / (2 / 3)", "1/(2*3)": "1 / (2 * 3)", "(1/2)*3": "1 / 2 * 3", "1*(2/3)": "1 * (2 / 3)",
	// products before sums
	"1+2*3": "1 + 2 * 3", "1+(2*3)": "1 + 2 * 3", "(1*2)+3": "1 * 2 + 3", "(1+2)*3": "(1 + 2) * 3", "1*(2+3)": "1 * (2 + 3)", "(1-2)/(3-4)": "(1 - 2) / (3 - 4)", "1-2*3-4": "1 - 2 * 3 - 4", "1-(2*3-4)": "1 - (2 * 3 - 4)", "((1))": "1", "( ( 1 + 2 ) )": "1 + 2",
	// calls
	"sum( /a , t )": "sum(/a, t)", "sum (1,t)": "sum(1, t)", "mean(1,t)": "mean(1, t)", "min(1,t)": "min(1, t)", "max(1,t)": "max(1, t)", "count(1,t)": "count(1, t)", "sum((1+2),t)": "sum(1 + 2, t)", "sum(-1,t)": "sum(-1, t)", "sum(1,sum)": "sum(1, sum)", "sum(1," + the17 + ")": "sum(1, " + the17 + ")", "sum(1,t2_)": "sum(1, t2_)",
	"window(max,/v,t,02)": "window(max, /v, t, 02)", "window(sum,1+2,t,0)": "window(sum, 1 + 2, t, 0)", "window ( count , 1 , t , 9999999999999999999999 )": "window(count, 1, t, 9999999999999999999999)",
	"group(mean,/v,t,year)": "group(mean, /v, t, year)", "group(min,/v,t,month)": "group(min, /v, t, month)", "cycle(sum,/v,day,season)": "cycle(sum, /v, day, season)", "cycle(max,(/v),t,day)": "cycle(max, /v, t, day)",
	"slice(/v,t,0,2,1)": "slice(/v, t, 0, 2, 1)", "slice((/v),t,00,01,0)": "slice(/v, t, 00, 01, 0)",
	"lesser(1,2)": "lesser(1, 2)", "greater(1,2)": "greater(1, 2)", "eq(1,2)": "eq(1, 2)", "lt(1,2)": "lt(1, 2)", "le(1,2)": "le(1, 2)", "else((1+2),(3))": "else(1 + 2, 3)", "where(1,(2),3)": "where(1, 2, 3)",
	`to(1,"m")`: `to(1, "m")`, `to(1,"")`: `to(1, "")`, `to( (1) , " a,b)(+-  '~" )`: `to(1, " a,b)(+-  '~")`, "bare( 1 )": "bare(1)", "bare(1+2)*3": "bare(1 + 2) * 3",
	"( /a+(/b*2) )": "/a + /b * 2", "/a/x-/y/2": "/a/x - /y / 2",
}

// notTexts are no expressions.
var notTexts = []string{
	"", " ", "()", "(", ")", "1)", "(1", "((1)", "(1))", "1 2", "1 .5", "1. 5", "1.", ".5", "1.5.2", "1..5", "1e5", "1,5", "1_0", "0x1", "+1", "1 +", "1 + ", "+", "1 +* 2", "1 + + 2", "* 1", "1 ** 2", "1 % 2", "-", "1 -", "1 = 1", "(1)(2)", "1(2)", "2 a", "2a", "2/a",
	"/", "/ a", "/A", "/1", "/_a", "//a", "/a/", "/a /b", "/a/ b", "/a b", "/aB", "/a.b", "/a-b", "/" + the17, "/a/" + the17, "/" + the17 + "/a", "/a/b/c/d/e/f", "/a/sum(1, t)", "/sum(1, t)", "/a/b/c/d/sum(1, t)", "/a/b/c/d/e/f(1)",
	"a", "sum", "t", "sum()", "sum(1)", "sum(1,)", "sum(1, )", "sum(, t)", "sum(1, t", "sum(1, t,)", "sum(1, t, 1)", "sum(1, 2)", "sum(1, /t)", "sum(1, (t))", `sum(1, "t")`, "sum(1, T)", "sum(1, _t)", "sum(1, 1t)", "sum(1 t)", "sum(t, 1)", "Sum(1, t)", "SUM(1, t)", "sums(1, t)", "sum2(1, t)", "s um(1, t)", "sum 1, t", "sum[1, t]", "median(1, t)", "(sum(1, t)", "sum(1, t))", "sum(1, t) (2)", "sum(sum, 1, t)",
	"window(1, t, 1)", "window(sum, 1, t)", "window(med, 1, t, 1)", "window(/sum, 1, t, 1)", "window(sum 1, t, 1)", "window(sum, 1, t, -1)", "window(sum, 1, t, 1.0)", "window(sum, 1, t, /a)", "window(sum, 1, t, x)", "window(sum, 1, t, )", "window(sum, 1, t, 1, 2)", "window(sum, 1, 1, t)", "window(sum, sum, 1, t, 1)", "window(lesser, 1, t, 1)",
	"group(1, t, month)", "group(sum, 1, t)", "group(sum, 1, t, week)", "group(sum, 1, t, years)", "group(sum, 1, t, 2)", "group(sum, 1, t, t)", "group(med, 1, t, day)", "cycle(sum, 1, t)", "cycle(sum, 1, t, week)", "cycle(avg, 1, t, day)", "cycle(sum, 1, t, month, 1)", "groups(sum, 1, t, day)",
	"slice(1, t, 0, 1)", "slice(1, t, 0, 1, 1, 1)", "slice(1, 0, 1, 1)", "slice(1, t, 0, -1, 1)", "slice(1, t, 0, 1, a)", "slice(/v, t, 0.5, 1, 1)", "slice(1, t, 0, 1.0, 1)", "slice(1, t, (0), 1, 1)", "slice(1, t, 0 1, 1)",
	"lesser(1)", "lesser(1, 2, 3)", "lesser()", "eq(1, t)", "eq(1 2)", "lt(1,)", "gt(1, 2)", "ge(1, 2)", "ne(1, 2)", "and(1, 2)", "where(1, 2)", "where(1, 2, 3, 4)", "where(1)", "if(1, 2, 3)",
	"to(1)", "to(1, m)", "to(1, 'm')", `to(1, "m)`, `to(1, m")`, `to(1, "a"b")`, `to(1, "m" "m")`, "to(1, \"\x1f\")", "to(1, \"\x7f\")", "to(1, \"\t\")", "to(1, \"\u00e4\")", "to(1, \"\x00\")", `to("m", 1)`, `"m"`, `to(1, /m)`, "bare()", "bare(1, 2)", "bare 1", "abs(1)",
	"\t1", "1\n", "1\x00", "\x00", "1 \xff", "1\u00d72", "1\u00a0+ 1", "1;", "\u0661",
}

// P7.2

func TestTexts(t *testing.T) {
	for text, want := range formats {
		for _, in := range []string{text, " " + text + "  ", "(" + text + ")", want} {
			if errno := calc.Check(in); errno != api.OK {
				t.Errorf("Check(%q): error %d", in, errno)
			}
			if got, errno := calc.Format(in); got != want || errno != api.OK {
				t.Errorf("Format(%q) = %q, error %d, want %q", in, got, errno, want)
			}
		}
	}
}

// allCalls returns the errors of all functions for a text, and whether some other result is not zero.
func allCalls(s api.Schema, data []api.Data, text string) (map[string]api.Errno, bool) {
	to := api.Chunk{Path: "/", Name: "q"}
	errnos := map[string]api.Errno{"Check": calc.Check(text)}
	var dirty bool
	note := func(name string, isZero bool, errno api.Errno) {
		errnos[name] = errno
		dirty = dirty || !isZero
	}
	format, errno := calc.Format(text)
	note("Format", format == "", errno)
	names, errno := calc.Names(text)
	note("Names", len(names) == 0, errno)
	replaced, errno := calc.Replace(text, to, to)
	note("Replace", replaced == "", errno)
	shaped, errno := calc.Infer(s, data, text)
	note("Infer", sameShaped(shaped, api.Shaped{}), errno)
	a, errno := calc.Value(s, data, text)
	note("Value", sameArray(a, api.Array{}), errno)
	a, errno = calc.Tile(s, data, text, nil)
	note("Tile", sameArray(a, api.Array{}), errno)
	used, errno := calc.Used(s, data, text, nil)
	note("Used", len(used) == 0, errno)
	plan, errno := calc.PlanOf(s, data, text, nil)
	note("PlanOf", len(plan.Tiles) == 0 && len(plan.Needs) == 0 && plan.Memory == 0 && plan.Steps == 0, errno)
	a, errno = calc.Run(s, data, text, nil, []int{0}, 1)
	note("Run", sameArray(a, api.Array{}), errno)
	return errnos, dirty
}

// refusedByAll checks that all functions, or those with a schema alone, return an error and nothing else.
func refusedByAll(t *testing.T, s api.Schema, data []api.Data, text string, want api.Errno, texts bool) {
	t.Helper()
	errnos, dirty := allCalls(s, data, text)
	for name, errno := range errnos {
		isText := slices.Contains([]string{"Check", "Format", "Names", "Replace"}, name)
		if errno != want && (texts || !isText) {
			t.Errorf("%s(%.80q): error %d, want %d", name, text, errno, want)
		}
	}
	if dirty && texts {
		t.Errorf("%.80q: not only the error %d", text, want)
	}
}

// P7.1: the errors of texts come first in all functions.

func TestNotTexts(t *testing.T) {
	bad := api.Schema{}
	badData := []api.Data{{Path: "x"}}
	for _, text := range notTexts {
		refusedByAll(t, bad, badData, text, api.ErrSyntax, true)
	}
	for text := range formats {
		if len(text) > 2 {
			for _, more := range []string{" 1", ")", ",", "(", " +", "\x00", "\"", " x", "."} {
				if errno := calc.Check(text + more); errno != api.ErrSyntax {
					t.Errorf("Check(%q): error %d", text+more, errno)
				}
			}
		}
	}
}

// balanced returns an expression with so many numbers and as few levels as possible.
func balanced(count int) string {
	if count == 1 {
		return "1"
	}
	return "(" + balanced(count/2) + "*" + balanced(count-count/2) + ")"
}

func TestLimits(t *testing.T) {
	minus := func(n int) string { return strings.Repeat("-", n) }
	good := map[string]string{
		"levels of signs":       minus(19) + "1",
		"levels from the left":  "1" + strings.Repeat("+1", 19),
		"levels from the right": strings.Repeat("1+(", 19) + "1" + strings.Repeat(")", 19),
		"levels of calls":       strings.Repeat("sum(", 19) + "1" + strings.Repeat(",t)", 19),
		"parentheses":           strings.Repeat("(", 499) + "12" + strings.Repeat(")", 499),
		"nodes":                 "-" + balanced(50),
		"bytes":                 strings.Repeat(" ", 999) + "1",
		"digits":                strings.Repeat("9", 1000),
		"an integer":            "window(sum,1,t," + strings.Repeat("9", 984) + ")",
		"a unit":                `to(1,"` + strings.Repeat("m", 992) + `")`,
		"a dimension":           "sum(1," + strings.Repeat("t", 993) + ")",
	}
	for name, text := range good {
		if errno := calc.Check(text); errno != api.OK || len(text) > api.MaxText {
			t.Errorf("%s: error %d, %d bytes", name, errno, len(text))
		}
	}
	bad := api.Schema{}
	tooMuch := []string{minus(20) + "1", minus(998) + "1", "1" + strings.Repeat("+1", 20), "1" + strings.Repeat("*1", 400), strings.Repeat("1+(", 20) + "1" + strings.Repeat(")", 20), strings.Repeat("sum(", 20) + "1" + strings.Repeat(",t)", 20), "--" + balanced(50), balanced(51), balanced(128), strings.Repeat(" ", 1001), "1" + strings.Repeat(" ", 1000), strings.Repeat("x", 1001), strings.Repeat("(", 5000), strings.Repeat("-", 100000)}
	for _, text := range tooMuch {
		refusedByAll(t, bad, nil, text, api.ErrLimit, true)
	}
	// The form comes before the number of nodes and levels.
	for _, text := range []string{minus(20), minus(30) + "1)", balanced(60) + "+", "1" + strings.Repeat("+1", 30) + " 1", strings.Repeat("(", 1000), strings.Repeat("-", 1000), strings.Repeat("sum(", 250)} {
		refusedByAll(t, bad, nil, text, api.ErrSyntax, true)
	}
}

// TestLongFormats: Format may need more bytes than the text has.
func TestLongFormats(t *testing.T) {
	digits := func(n int) string { return strings.Repeat("9", n) }
	q, b := api.Chunk{Path: "/", Name: "q"}, api.Chunk{Path: "/", Name: "b"}
	if got, errno := calc.Format(digits(996) + "+1"); got != digits(996)+" + 1" || errno != api.OK {
		t.Errorf("Format of 1000 bytes: error %d", errno)
	}
	text := digits(997) + "+1"
	if got, errno := calc.Format(text); got != "" || errno != api.ErrLimit || calc.Check(text) != api.OK {
		t.Errorf("Format of 1001 bytes: %.20q, error %d", got, errno)
	}
	if got, errno := calc.Replace(text, q, b); got != "" || errno != api.ErrLimit {
		t.Errorf("Replace with 1001 bytes: %.20q, error %d", got, errno)
	}
	if got, errno := calc.Replace(text, q, api.Chunk{}); got != "" || errno != api.ErrArg {
		t.Errorf("Replace with nothing: %.20q, error %d", got, errno)
	}
	if l, errno := calc.Names(text + " "); len(l) != 0 || errno != api.OK {
		t.Errorf("Names: error %d", errno)
	}
	// What counts is the text that is returned.
	long := api.Chunk{Path: "/", Name: the17[:16]}
	text = "/" + long.Name + "+" + digits(982)
	if got, errno := calc.Format(text); got != "" || errno != api.ErrLimit {
		t.Errorf("Format of 1002 bytes: %.20q, error %d", got, errno)
	}
	if got, errno := calc.Replace(text, long, b); got != "/b + "+digits(982) || errno != api.OK {
		t.Errorf("Replace by a shorter name: %.20q, error %d", got, errno)
	}
	for n, want := range map[int]api.Errno{980: api.OK, 981: api.ErrLimit} {
		if _, errno := calc.Replace("/b+"+digits(n), b, long); errno != want {
			t.Errorf("Replace by a longer name with %d digits: error %d", n, errno)
		}
	}
}

func TestNames(t *testing.T) {
	for text, want := range map[string]string{
		"1":                                  "",
		"/a":                                 "/ a",
		"/b + /a * /b":                       "/ a,/ b",
		"/g/x + /b * /b":                     "/ b,/g x",
		"/b/x - /a/b/x + /a/x + /x":          "/ x,/a x,/a/b x,/b x",
		"/a/z * /a/b/a * /a_b/a * /z":        "/ z,/a z,/a/b a,/a_b a",
		"/t2 + /t10 + /t_ + /t + /ta":        "/ t,/ t10,/ t2,/ t_,/ ta",
		"where(/c, /b, to(bare(/a), \"m\"))": "/ a,/ b,/ c",
		"/a/b/c/d/e/f1 + 1":                  "",
		"group(sum, /v, t, month) / -slice(window(max, /u, x, 2), x, 0, 1, 1)": "/ u,/ v",
	} {
		l, errno := calc.Names(text)
		var got []string
		for _, c := range l {
			got = append(got, c.Path+" "+c.Name)
		}
		wantErrno := api.OK
		if strings.Contains(text, "f1") {
			wantErrno = api.ErrSyntax
		}
		if strings.Join(got, ",") != want || errno != wantErrno {
			t.Errorf("Names(%q) = %q, error %d, want %q", text, got, errno, want)
		}
	}
}

func TestReplace(t *testing.T) {
	type row struct {
		text, fromPath, from, toPath, to, want string
	}
	for _, x := range []row{
		{"/a+/b", "/", "a", "/g", "c", "/g/c + /b"},
		{"(/a+/b)*/a", "/", "a", "/", "b", "(/b + /b) * /b"},
		{"/a/b+/a/c", "/a", "b", "/", "b", "/b + /a/c"},
		{"/a/b/c", "/a/b", "c", "/p/q/r/s", the17[:16], "/p/q/r/s/" + the17[:16]},
		{"/a/b/c", "/a", "b/c", "/", "x", "/a/b/c"},
		{"/a/b/c", "/a/b/", "c", "/", "x", "/a/b/c"},
		{"/a/b", "/", "a/b", "/", "x", "/a/b"},
		{"/a/b", "/a", "a", "/", "x", "/a/b"},
		{"/a", "", "a", "/", "x", "/a"},
		{"/a*1", "", "", "/", "x", "/a * 1"},
		{"/a*1", "/", "b", "/", "x", "/a * 1"},
		{"/a*1", "/", "a", "/", "a", "/a * 1"},
		{"sum(/t,t)", "/", "t", "/", "x", "sum(/x, t)"},
		{"window(max,/max,max,1)", "/", "max", "/", "min", "window(max, /min, max, 1)"},
		{"-(/a/2)/ /a", "/", "a", "/a", "a", "-(/a/a / 2) / /a/a"},
		{`to(/m,"/m")`, "/", "m", "/", "s", `to(/s, "/m")`},
	} {
		got, errno := calc.Replace(x.text, api.Chunk{Path: x.fromPath, Name: x.from}, api.Chunk{Path: x.toPath, Name: x.to})
		if got != x.want || errno != api.OK {
			t.Errorf("Replace(%q, %s %s) = %q, error %d, want %q", x.text, x.fromPath, x.from, got, errno, x.want)
		}
	}
	for _, to := range []api.Chunk{{}, {Path: "/"}, {Name: "x"}, {Path: "/", Name: "X"}, {Path: "/", Name: the17}, {Path: "/", Name: "1x"}, {Path: "/", Name: "a/b"}, {Path: "a", Name: "x"}, {Path: "//", Name: "x"}, {Path: "/a/", Name: "x"}, {Path: "/a/b/c/d/e", Name: "x"}, {Path: "/" + the17, Name: "x"}} {
		for _, from := range []string{"a", "none"} {
			if got, errno := calc.Replace("/a + 1", api.Chunk{Path: "/", Name: from}, to); got != "" || errno != api.ErrArg {
				t.Errorf("Replace with %v = %q, error %d", to, got, errno)
			}
		}
		if _, errno := calc.Replace("/a +", api.Chunk{}, to); errno != api.ErrSyntax {
			t.Errorf("Replace of no expression with %v: error %d", to, errno)
		}
		if _, errno := calc.Replace(strings.Repeat("-", 20)+"1", api.Chunk{}, to); errno != api.ErrLimit {
			t.Errorf("Replace in too many levels with %v: error %d", to, errno)
		}
	}
}

// TestSpoiltTexts changes a byte of texts, and compares Check with a recognizer that knows nothing of trees.
func TestSpoiltTexts(t *testing.T) {
	r := newRandom()
	s := schemaOf(t, worldText)
	g := grower{r, newModel(s, someData(r, s))}
	bytes := []string{" ", "/", "(", ")", ",", "-", "+", "*", ".", "1", "t", "\"", "_", "a", "sum", "day", "A"}
	count := map[api.Errno]int{}
	for range 20000 {
		text := g.grow(r.IntN(3) + 1).noisy(r)
		at := r.IntN(len(text))
		switch r.IntN(3) {
		case 0:
			text = text[:at] + text[at+1:]
		case 1:
			text = text[:at] + pick(r, bytes) + text[at:]
		case 2:
			text = text[:at] + pick(r, bytes) + text[at+1:]
		}
		want := api.ErrSyntax
		if recognized(text) {
			want = api.OK
		}
		if errno := calc.Check(text); errno != want {
			t.Fatalf("Check(%q): error %d, want %d", text, errno, want)
		}
		if format, errno := calc.Format(text); errno == api.OK {
			if again, errno := calc.Format(format); again != format || errno != api.OK {
				t.Fatalf("Format(%q) = %q, error %d", format, again, errno)
			}
		}
		count[want]++
	}
	if count[api.OK] < 1000 || count[api.ErrSyntax] < 1000 {
		t.Error(fmt.Sprint(count))
	}
}
