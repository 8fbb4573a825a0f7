package lab_test

import (
	"fmt"
	"math/rand/v2"
	"slices"
	"strings"
	"testing"

	"arrayarchive/api"
	"arrayarchive/lab"
	"arrayarchive/quantity"
	"arrayarchive/schema"
)

// P10.7

func TestFormatValues(t *testing.T) {
	for _, c := range []struct {
		l    []string
		want string
	}{
		{nil, "-"},
		{[]string{}, "-"},
		{[]string{""}, "_"},
		{[]string{"", ""}, "_,_"},
		{[]string{"-1/2"}, "-1/2"},
		{[]string{"1", "", "0", "-7/3"}, "1,_,0,-7/3"},
		// What is no value counts as missing, as everywhere.
		{[]string{"x", "1", "01", "1/0", "-", "_", "2/4"}, "_,1,_,_,_,_,_"},
	} {
		if got := lab.FormatValues(c.l); got != c.want {
			t.Errorf("FormatValues(%q) = %q, want %q", c.l, got, c.want)
		}
	}
}

func TestReadValues(t *testing.T) {
	digits := strings.Repeat("1", 40)
	for _, c := range []struct {
		s    string
		want []string
	}{
		{"-", nil},
		{"_", []string{""}},
		{"_,_", []string{"", ""}},
		{"0", []string{"0"}},
		{"-0,00.0,-0/5", []string{"0", "0", "0"}},
		{"1,-2/4,0.250,007", []string{"1", "-1/2", "1/4", "7"}},
		{digits + ",-" + digits, []string{digits, "-" + digits}},
		{strings.Repeat("0", 990) + "1", []string{"1"}},
	} {
		got, errno := lab.ReadValues(c.s)
		if !slices.Equal(got, c.want) || errno != api.OK {
			t.Errorf("ReadValues(%q) = %q, error %d, want %q", c.s, got, errno, c.want)
		}
	}
	for _, s := range []string{"", ",", "1,", ",1", "1,,2", " ", "1, 2", " 1", "1 ", "1;2", "-,1", "1,-", "--1", "+1", "1/0", "1/", "/2", "1.", ".5", "1/2/3", "1.5/2", "x", "1,x", "__", "_1", "1e3", "1\n", digits + "1", "1/" + digits + "1", strings.Repeat("0", 1001), "1,2\x00"} {
		if got, errno := lab.ReadValues(s); len(got) > 0 || errno != api.ErrSyntax {
			t.Errorf("ReadValues(%q) = %q, error %d, want %d", s, got, errno, api.ErrSyntax)
		}
	}
}

// ReadValues is quantity.Parse of each part, and undoes FormatValues.
func TestValuesOfAnyText(t *testing.T) {
	r := newRandom(1)
	for range 5000 {
		b := make([]byte, r.IntN(12))
		for i := range b {
			b[i] = "0123456789-/.,,,__ "[r.IntN(19)]
		}
		s := string(b)
		var want []string
		wantErrno := api.OK
		for _, part := range strings.Split(s, ",") {
			x, errno := quantity.Parse(part)
			if part != "_" && errno != api.OK {
				wantErrno = api.ErrSyntax
			}
			want = append(want, x)
		}
		if wantErrno != api.OK {
			want = nil
		}
		if s == "-" {
			want, wantErrno = nil, api.OK
		}
		got, errno := lab.ReadValues(s)
		if !slices.Equal(got, want) || errno != wantErrno {
			t.Fatalf("ReadValues(%q) = %q, error %d, want %q, error %d", s, got, errno, want, wantErrno)
		}
		if errno != api.OK {
			continue
		}
		back, errno := lab.ReadValues(lab.FormatValues(got))
		if !slices.Equal(back, got) || errno != api.OK {
			t.Fatalf("ReadValues of FormatValues(%q) = %q, error %d", got, back, errno)
		}
	}
}

func TestLine(t *testing.T) {
	for _, c := range []struct {
		path string
		v    api.Var
		want string
	}{
		{"/", api.Var{Name: "v", Type: api.TypeNum}, "/ v num ( ) ( ) none \"\""},
		{"/a/b", api.Var{Name: "v", Type: api.TypeI8, Dims: []string{"z", "a"}, Chunks: []int{3, 4}, Fill: "-1", Unit: "kg m^-1"}, "/a/b v i8 ( z a ) ( 3 4 ) -1 \"kg m^-1\""},
		{"/", api.Var{Name: "var", Type: api.TypeI64, Dims: []string{"var"}, Chunks: []int{1024}, Fill: "0", Attrs: []api.Attr{{Name: "var", Kind: api.AttrText, Text: "\nvar x"}}}, "/ var i64 ( var ) ( 1024 ) 0 \"\""},
		{"/", api.Var{Name: "v", Type: api.TypeI32, Attrs: []api.Attr{{Name: "b", Kind: api.AttrNums, Nums: []string{"1"}}}, Stages: []api.Stage{{Kind: api.StageRound, Step: "1/2"}, {Kind: api.StageShuffle, N: 4}, {Kind: api.StagePack, N: 8}, {Kind: api.StageDict}}}, "/ v i32 ( ) ( ) none \"\" round(0,1/2) shuffle(4,) pack(8,) dict(0,)"},
		{"/x", api.Var{Name: "v", Type: api.TypeI16, Dims: []string{"a", "b", "c", "d"}, Chunks: []int{8, 8, 8, 8}}, "/x v i16 ( a b c d ) ( 8 8 8 8 ) none \"\""},
	} {
		if got := lab.Line(c.path, c.v); got != c.want {
			t.Errorf("Line = %q, want %q", got, c.want)
		}
	}
}

// A variable that is not valid is no reason to panic.
func TestLineOfInvalid(t *testing.T) {
	for _, v := range []api.Var{{}, {Name: "v"}, {Name: "v", Type: 6}, {Name: "v", Type: -1}, {Name: "v", Type: 1, Dims: []string{"t"}}, {Name: "v", Type: 1, Stages: []api.Stage{{Kind: 6}}}, {Name: "v", Type: 1, Dims: []string{"t", "t"}, Chunks: []int{1, 1}}, {Name: "v", Type: 1, Dims: make([]string, 100)}, {Name: "v", Type: 1, Unit: "\""}} {
		lab.Line("/", v)
	}
}

// someVariable returns a valid variable.
func someVariable(r *rand.Rand) api.Var {
	v := api.Var{Name: pick(r, []string{"v", "var", "a_1", "abcdefghijklmnop"}), Type: 1 + r.IntN(5), Fill: pick(r, []string{"", "0", "-128"}), Unit: pick(r, []string{"", "1", "m", "kg m^-1 s^-2", "1/2 K"})}
	if v.Type == api.TypeNum && r.IntN(2) == 0 {
		v.Fill = "-7/3"
	}
	for _, i := range r.Perm(6)[:r.IntN(5)] {
		v.Dims = append(v.Dims, []string{"t", "x", "group", "dim", "b2", "abcdefghijklmnop"}[i])
		v.Chunks = append(v.Chunks, 1+r.IntN(8))
	}
	for range r.IntN(5) {
		v.Stages = append(v.Stages, api.Stage{Kind: 1 + r.IntN(5), N: r.IntN(9), Step: pick(r, []string{"", "1", "2/3"})})
	}
	for i := range r.IntN(3) {
		v.Attrs = append(v.Attrs, api.Attr{Name: fmt.Sprint("a", i), Kind: api.AttrText, Text: "var x"})
	}
	return v
}

// Line is the line of schema.Print, whatever else the schema has.
func TestLineIsThatOfPrint(t *testing.T) {
	r := newRandom(2)
	for range 2000 {
		v := someVariable(r)
		s := api.Schema{Groups: []api.Group{{Path: "/"}, {Path: "/g"}}}
		for i, name := range []string{"abcdefghijklmnop", "b2", "dim", "group", "t", "x"} {
			s.Groups[i%2].Dims = append(s.Groups[i%2].Dims, api.Dim{Name: name, Size: 1 + i, Open: i == 3})
		}
		s.Groups[1].Vars = []api.Var{v}
		text, errno := schema.Print(s)
		checkErrno(t, "Print", errno, api.OK)
		want := ""
		for _, line := range strings.Split(text, "\n") {
			if rest, ok := strings.CutPrefix(line, "var "); ok {
				want = rest
			}
		}
		if got := lab.Line("/g", v); got != "/g "+want {
			t.Fatalf("Line of %+v = %q, want %q", v, got, want)
		}
	}
}
