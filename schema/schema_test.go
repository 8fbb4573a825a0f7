package schema_test

import (
	"math"
	"slices"
	"strings"
	"testing"

	"arrayarchive/api"
	"arrayarchive/schema"
)

// rich returns a valid schema with something of everything.
func rich() api.Schema {
	temp := api.Var{
		Name: "temp", Type: api.TypeI16, Dims: []string{"t", "x"}, Chunks: []int{1, 300}, Fill: "-1", Unit: "K",
		Stages: []api.Stage{{Kind: api.StageRound, Step: "5"}, {Kind: api.StageDelta, N: 2}, {Kind: api.StageShuffle, N: 8, Step: "1/2"}, {Kind: api.StagePack}},
		Attrs:  []api.Attr{{Name: "long", Kind: api.AttrText, Text: `a "b" \ c`}, {Name: "range", Kind: api.AttrNums, Nums: []string{"-1/3", "200"}}},
	}
	return api.Schema{Groups: []api.Group{
		{Path: "/", Dims: []api.Dim{{Name: "t", Size: 3, Open: true}, {Name: "x", Size: 200}}, Vars: []api.Var{{Name: "t", Type: api.TypeI32, Dims: []string{"t"}, Chunks: []int{8}}, temp}},
		{Path: "/a", Dims: []api.Dim{{Name: "x", Size: 2}, {Name: "y", Size: 0, Open: true}}, Vars: []api.Var{{Name: "one", Type: api.TypeI8, Fill: "127"}, {Name: "w", Type: api.TypeNum, Dims: []string{"x", "t"}, Chunks: []int{2, 2}, Fill: "1/2", Unit: "km/h"}, {Name: "x", Type: api.TypeI64, Dims: []string{"x", "y"}, Chunks: []int{1, 1}}}, Attrs: []api.Attr{{Name: "empty", Kind: api.AttrText}}},
		{Path: "/a/b", Vars: []api.Var{{Name: "deep", Type: api.TypeNum, Dims: []string{"y", "x", "t"}, Chunks: []int{1, 1024, 4}, Stages: []api.Stage{{Kind: api.StageDict, N: 1}}}}},
		{Path: "/a/b/c"},
		{Path: "/a_b", Dims: []api.Dim{{Name: "t", Size: 1}}, Vars: []api.Var{{Name: "t", Type: api.TypeI8, Dims: []string{"t"}, Chunks: []int{1}, Fill: "0"}}},
	}}
}

// the variables of rich that tests change
const (
	tempAt = 1
	wAt    = 1
)

// broken are changes of rich that make it a schema that is not valid.
func broken() map[string]func(s *api.Schema) {
	m := map[string]func(s *api.Schema){
		"no groups":        func(s *api.Schema) { s.Groups = nil },
		"no group /":       func(s *api.Schema) { s.Groups = []api.Group{{Path: "/a"}} },
		"an empty path":    func(s *api.Schema) { s.Groups = slices.Insert(s.Groups, 0, api.Group{}) },
		"the same group":   func(s *api.Schema) { s.Groups = slices.Insert(s.Groups, 3, api.Group{Path: "/a/b"}) },
		"/ twice":          func(s *api.Schema) { s.Groups = slices.Insert(s.Groups, 0, api.Group{Path: "/"}) },
		"groups swapped":   func(s *api.Schema) { s.Groups[3], s.Groups[4] = s.Groups[4], s.Groups[3] },
		"/ behind":         func(s *api.Schema) { s.Groups = append(s.Groups[1:], s.Groups[0]) },
		"no parent":        func(s *api.Schema) { s.Groups[3].Path = "/a/c/c" },
		"no parent at all": func(s *api.Schema) { s.Groups[4].Path = "/z/y" },
		"a bad path":       func(s *api.Schema) { s.Groups[4].Path = "/a_B" },
		"a deep path": func(s *api.Schema) {
			s.Groups = append(s.Groups, group("/z"), group("/z/z"), group("/z/z/z"), group("/z/z/z/z"), group("/z/z/z/z/z"))
		},
		"17 groups": func(s *api.Schema) {
			for i := range 12 {
				s.Groups = append(s.Groups, group("/c"+string(rune('a'+i))))
			}
		},
		"a dimension twice":  func(s *api.Schema) { s.Groups[0].Dims = append(s.Groups[0].Dims, api.Dim{Name: "x", Size: 200}) },
		"dimensions swapped": func(s *api.Schema) { slices.Reverse(s.Groups[0].Dims) },
		"17 dimensions":      func(s *api.Schema) { s.Groups[3].Dims = dims(17) },
		"a bad dimension":    func(s *api.Schema) { s.Groups[3].Dims = []api.Dim{{Name: "Z"}} },
		"a negative size":    func(s *api.Schema) { s.Groups[1].Dims[1].Size = -1 },
		"the size 1025":      func(s *api.Schema) { s.Groups[1].Dims[0].Size = 1025; s.Groups[1].Vars = nil; s.Groups[2].Vars = nil },
		"a variable twice":   func(s *api.Schema) { s.Groups[0].Vars[tempAt].Name = "t" },
		"variables swapped":  func(s *api.Schema) { slices.Reverse(s.Groups[0].Vars) },
		"25 variables":       func(s *api.Schema) { s.Groups[3].Vars = vars(25) },
		"an attribute twice": func(s *api.Schema) { s.Groups[3].Attrs = []api.Attr{attr("a"), attr("a")} },
		"attributes swapped": func(s *api.Schema) { s.Groups[3].Attrs = []api.Attr{attr("b"), attr("a")} },
		"17 attributes":      func(s *api.Schema) { s.Groups[3].Attrs = attrs(17) },
		"a bad attribute":    func(s *api.Schema) { s.Groups[3].Attrs = []api.Attr{{Name: "a"}} },
		"a dimension below":  func(s *api.Schema) { s.Groups[0].Vars[tempAt].Dims[0] = "y" },
		"a dimension beside": func(s *api.Schema) { s.Groups[4].Vars[0].Dims[0] = "y" },
		"4097 elements":      func(s *api.Schema) { s.Groups[0].Dims[0].Size = 17; s.Groups[0].Dims[1].Size = 241 },
		"many elements in /a": func(s *api.Schema) {
			s.Groups[0].Dims[0].Size = 1024
			s.Groups[0].Dims[1].Size = 4
			s.Groups[1].Dims[0].Size = 5
		},
		"5 dimensions": func(s *api.Schema) {
			s.Groups[3].Dims = dims(5)
			s.Groups[3].Vars = []api.Var{{Name: "v", Type: api.TypeI8, Dims: []string{"da", "db", "dc", "dd", "de"}, Chunks: []int{1, 1, 1, 1, 1}}}
		},
		"2^40 elements": func(s *api.Schema) { s.Groups[3].Dims = fourLong(); s.Groups[3].Vars = []api.Var{overFour()} },
	}
	for name, change := range brokenVars() {
		m["variable: "+name] = func(s *api.Schema) { change(&s.Groups[0].Vars[tempAt]) }
	}
	for name, a := range brokenAttrs() {
		m["attribute: "+name] = func(s *api.Schema) { s.Groups[0].Attrs = []api.Attr{a} }
		m["attribute of a variable: "+name] = func(s *api.Schema) { s.Groups[0].Vars[0].Attrs = []api.Attr{a} }
	}
	return m
}

// brokenVars are changes of a variable of rich over t and x.
func brokenVars() map[string]func(v *api.Var) {
	return map[string]func(v *api.Var){
		"no name":            func(v *api.Var) { v.Name = "" },
		"a bad name":         func(v *api.Var) { v.Name = "temp-1" },
		"no type":            func(v *api.Var) { v.Type = 0 },
		"no type, no fill":   func(v *api.Var) { v.Type, v.Fill = 0, "" },
		"the type 6":         func(v *api.Var) { v.Type, v.Fill = 6, "" },
		"a negative type":    func(v *api.Var) { v.Type = -1 },
		"an unknown name":    func(v *api.Var) { v.Dims[1] = "q" },
		"an empty dimension": func(v *api.Var) { v.Dims[1] = "" },
		"a name twice":       func(v *api.Var) { v.Dims[1] = "t" },
		"a chunk less":       func(v *api.Var) { v.Chunks = v.Chunks[:1] },
		"a chunk more":       func(v *api.Var) { v.Chunks = append(v.Chunks, 1) },
		"no chunks":          func(v *api.Var) { v.Chunks = nil },
		"a chunk of 0":       func(v *api.Var) { v.Chunks[0] = 0 },
		"negative chunks":    func(v *api.Var) { v.Chunks = []int{-1, -1} },
		"a chunk of 1025":    func(v *api.Var) { v.Chunks[1] = 1025 },
		"a long chunk":       func(v *api.Var) { v.Chunks[1] = math.MaxInt },
		"chunks of 4097":     func(v *api.Var) { v.Chunks = []int{17, 241} },
		"a fill too large":   func(v *api.Var) { v.Fill = "32768" },
		"a fraction as fill": func(v *api.Var) { v.Fill = "1/2" },
		"a bad fill":         func(v *api.Var) { v.Fill = "01" },
		"the fill none":      func(v *api.Var) { v.Fill = "none" },
		"a bad fill of num":  func(v *api.Var) { v.Type, v.Fill = api.TypeNum, "2/4" },
		"a bad unit":         func(v *api.Var) { v.Unit = "Kelvin" },
		"a blank unit":       func(v *api.Var) { v.Unit = " " },
		"a unit with a line": func(v *api.Var) { v.Unit = "K\n" },
		"a unit too long":    func(v *api.Var) { v.Unit = strings.Repeat("1", api.MaxText+1) },
		"5 stages":           func(v *api.Var) { v.Stages = append(v.Stages, api.Stage{Kind: api.StagePack}) },
		"no kind":            func(v *api.Var) { v.Stages[1].Kind = 0 },
		"the kind 6":         func(v *api.Var) { v.Stages[1].Kind = 6 },
		"N of 9":             func(v *api.Var) { v.Stages[1].N = 9 },
		"a negative N":       func(v *api.Var) { v.Stages[1].N = -1 },
		"a step of 0":        func(v *api.Var) { v.Stages[0].Step = "0" },
		"a negative step":    func(v *api.Var) { v.Stages[1].Step = "-1/2" },
		"a bad step":         func(v *api.Var) { v.Stages[1].Step = "1.5" },
		"attributes swapped": func(v *api.Var) { slices.Reverse(v.Attrs) },
		"17 attributes":      func(v *api.Var) { v.Attrs = attrs(17) },
		"5 dimensions":       func(v *api.Var) { v.Dims, v.Chunks = []string{"t", "x", "t", "x", "t"}, []int{1, 1, 1, 1, 1} },
	}
}

func brokenAttrs() map[string]api.Attr {
	return map[string]api.Attr{
		"nothing":          {},
		"no name":          {Kind: api.AttrText, Text: "a"},
		"a bad name":       {Name: "a b", Kind: api.AttrText},
		"a bad name, nums": {Name: "1", Kind: api.AttrNums, Nums: []string{"1"}},
		"no kind":          {Name: "a", Text: "a"},
		"kind 3":           {Name: "a", Kind: 3},
		"text with nums":   {Name: "a", Kind: api.AttrText, Text: "a", Nums: []string{"1"}},
		"nums with text":   {Name: "a", Kind: api.AttrNums, Text: "a", Nums: []string{"1"}},
		"no nums":          {Name: "a", Kind: api.AttrNums},
		"33 nums":          {Name: "a", Kind: api.AttrNums, Nums: slices.Repeat([]string{"1"}, 33)},
		"a missing num":    {Name: "a", Kind: api.AttrNums, Nums: []string{"1", ""}},
		"a bad num":        {Name: "a", Kind: api.AttrNums, Nums: []string{"1.5"}},
		"201 bytes":        {Name: "a", Kind: api.AttrText, Text: strings.Repeat("a", 201)},
		"the byte 31":      {Name: "a", Kind: api.AttrText, Text: "a\x1f"},
		"the byte 127":     {Name: "a", Kind: api.AttrText, Text: "\x7f"},
		"a line feed":      {Name: "a", Kind: api.AttrText, Text: "a\n"},
		"no ASCII":         {Name: "a", Kind: api.AttrText, Text: "\u00e9"},
	}
}

// kept are changes of rich that it stays valid with: the limits.
func kept() map[string]func(s *api.Schema) {
	temp := func(s *api.Schema) *api.Var { return &s.Groups[0].Vars[tempAt] }
	return map[string]func(s *api.Schema){
		"nothing": func(s *api.Schema) {},
		"empty lists": func(s *api.Schema) {
			s.Groups[3] = api.Group{Path: "/a/b/c", Dims: []api.Dim{}, Vars: []api.Var{}, Attrs: []api.Attr{}}
		},
		"16 groups": func(s *api.Schema) {
			for i := range 11 {
				s.Groups = append(s.Groups, group("/c"+string(rune('a'+i))))
			}
		},
		"a deep path": func(s *api.Schema) {
			s.Groups = append(s.Groups, group("/z"), group("/z/z"), group("/z/z/z"), group("/z/z/z/z"))
		},
		"full lists": func(s *api.Schema) {
			s.Groups[3].Dims, s.Groups[3].Vars, s.Groups[3].Attrs = dims(16), vars(24), attrs(16)
		},
		"the size 1024": func(s *api.Schema) {
			s.Groups[1].Dims[1].Size = 1024
			s.Groups[1].Dims[0].Size = 1
			s.Groups[2].Vars = nil
		},
		"4096 elements": func(s *api.Schema) { s.Groups[0].Dims[0].Size = 16; s.Groups[0].Dims[1].Size = 256 },
		"no elements": func(s *api.Schema) {
			s.Groups[3].Dims = append([]api.Dim{{Name: "a"}}, fourLong()[1:]...)
			s.Groups[3].Vars = []api.Var{overFour()}
		},
		"a chunk of 1024":  func(s *api.Schema) { temp(s).Chunks = []int{4, 1024} },
		"no fill":          func(s *api.Schema) { temp(s).Fill = "" },
		"the last fill":    func(s *api.Schema) { temp(s).Fill = "-32768" },
		"no unit":          func(s *api.Schema) { temp(s).Unit = "" },
		"a long unit":      func(s *api.Schema) { temp(s).Unit = "K" + strings.Repeat(" 1.000000", 11) },
		"an offset":        func(s *api.Schema) { temp(s).Unit = "degC" },
		"no stages":        func(s *api.Schema) { temp(s).Stages = nil },
		"N of 8":           func(s *api.Schema) { temp(s).Stages[1].N = 8 },
		"16 attributes":    func(s *api.Schema) { temp(s).Attrs = attrs(16) },
		"a text of 200":    func(s *api.Schema) { temp(s).Attrs[0].Text = strings.Repeat(`" ~\`, 50) },
		"32 nums":          func(s *api.Schema) { temp(s).Attrs[1].Nums = slices.Repeat([]string{"-7"}, 32) },
		"the same names":   func(s *api.Schema) { s.Groups[0].Attrs = []api.Attr{attr("t"), attr("temp")} },
		"long names":       func(s *api.Schema) { s.Groups[3].Dims = []api.Dim{{Name: "abcdefghijklmn_0"}} },
		"a shadowed name":  func(s *api.Schema) { s.Groups[2].Dims = []api.Dim{{Name: "x", Size: 9}} },
		"a name of no use": func(s *api.Schema) { s.Groups[0].Dims = append(s.Groups[0].Dims, api.Dim{Name: "z", Size: 1024}) },
	}
}

func group(path string) api.Group {
	return api.Group{Path: path}
}

func attr(name string) api.Attr {
	return api.Attr{Name: name, Kind: api.AttrText, Text: "text"}
}

// numbered returns a name with a number, in the order of the numbers.
func numbered(letter string, i int) string {
	return letter + string(rune('a'+i))
}

func dims(n int) []api.Dim {
	var l []api.Dim
	for i := range n {
		l = append(l, api.Dim{Name: numbered("d", i), Size: i})
	}
	return l
}

func vars(n int) []api.Var {
	var l []api.Var
	for i := range n {
		l = append(l, api.Var{Name: numbered("v", i), Type: api.TypeI8})
	}
	return l
}

func attrs(n int) []api.Attr {
	var l []api.Attr
	for i := range n {
		l = append(l, attr(numbered("a", i)))
	}
	return l
}

// fourLong are four dimensions of the greatest size, and overFour is a variable over them.
func fourLong() []api.Dim {
	return []api.Dim{{Name: "a", Size: 1024}, {Name: "b", Size: 1024}, {Name: "c", Size: 1024}, {Name: "d", Size: 1024}}
}

func overFour() api.Var {
	return api.Var{Name: "v", Type: api.TypeNum, Dims: []string{"a", "b", "c", "d"}, Chunks: []int{8, 8, 8, 8}}
}

// invalid returns the schemas that broken makes of rich, by names.
func invalid() map[string]api.Schema {
	m := map[string]api.Schema{"the zero value": {}}
	for name, change := range broken() {
		s := rich()
		change(&s)
		m[name] = s
	}
	return m
}

func isEmpty(s api.Schema) bool {
	return len(s.Groups) == 0
}

func isZeroVar(v api.Var) bool {
	return v.Name == "" && v.Type == 0 && len(v.Dims) == 0 && len(v.Chunks) == 0 && v.Fill == "" && v.Unit == "" && len(v.Stages) == 0 && len(v.Attrs) == 0
}

// P3.1

func TestErrSchemaComesFirst(t *testing.T) {
	for name, s := range invalid() {
		check := func(function string, errno api.Errno, isZero bool) {
			t.Helper()
			if errno != api.ErrSchema || !isZero {
				t.Errorf("%s: %s: error %d, results are zero: %v", name, function, errno, isZero)
			}
		}
		v, errno := schema.Find(s, "/none", "none")
		check("Find", errno, isZeroVar(v))
		path, d, errno := schema.Resolve(s, "/none", "none")
		check("Resolve", errno, path == "" && d == api.Dim{})
		shape, errno := schema.Shape(s, "/none", "none")
		check("Shape", errno, len(shape) == 0)
		path, errno = schema.Coordinate(s, "/none", "none")
		check("Coordinate", errno, path == "")
		users, errno := schema.Users(s, "/none", "none")
		check("Users", errno, len(users) == 0)
		text, errno := schema.Print(s)
		check("Print", errno, text == "")
		for _, version := range []int{0, 1, 2, 3} {
			b, errno := schema.Encode(s, version)
			check("Encode", errno, len(b) == 0)
		}
		for kind := range 13 {
			back, errno := schema.Apply(s, api.Change{Kind: kind, Path: "none", Name: "A", New: "B"})
			check("Apply", errno, isEmpty(back))
		}
	}
}

// P3.2

func TestNames(t *testing.T) {
	for _, s := range []string{"a", "z", "a1", "a_", "temp", "t_2m", "abcdefghijklmnop", "a" + strings.Repeat("_", 15), "z" + strings.Repeat("9", 15)} {
		if !schema.ValidName(s) || !schema.ValidPath("/"+s) {
			t.Errorf("%q is no name", s)
		}
	}
	for _, s := range []string{"", "A", "aB", "_a", "_", "1", "9a", "a b", " a", "a ", "a-b", "a.b", "a\n", "a\x00", "a/b", "/a", "`", "{", "a`", "a{", "a@", "a[", "a^", "a:", "\u00e9", "a\u00e9", "\xff", "abcdefghijklmnopq", strings.Repeat("a", 1<<20)} {
		if schema.ValidName(s) {
			t.Errorf("%.40q is a name", s)
		}
		if s != "a/b" && schema.ValidPath("/"+s) != (s == "") {
			t.Errorf("%.40q is a path", "/"+s)
		}
	}
}

func TestPaths(t *testing.T) {
	long := "/abcdefghijklmnop"
	for path, parent := range map[string]string{"/a": "/", long: "/", "/a/b": "/a", "/a1/b_/c": "/a1/b_", "/a/b/c/d": "/a/b/c", strings.Repeat(long, 4): strings.Repeat(long, 3)} {
		if got, ok := schema.Parent(path); got != parent || !ok || !schema.ValidPath(path) {
			t.Errorf("Parent(%q): %q, %v", path, got, ok)
		}
	}
	if got, ok := schema.Parent("/"); got != "" || ok || !schema.ValidPath("/") {
		t.Errorf("Parent of /: %q, %v", got, ok)
	}
	for _, path := range []string{"", "a", "a/b", "//", "/a/", "//a", "/a//b", "/A", "/a/B", "/a/b/c/d/e", "/a b", " /", "/ ", "/\n", "/a\n", "/1", "/_", long + "q", "/a" + long + "q/b", strings.Repeat("/a", 1<<19), strings.Repeat("/", 1<<20)} {
		if got, ok := schema.Parent(path); got != "" || ok || schema.ValidPath(path) {
			t.Errorf("Parent(%.40q): %q, %v", path, got, ok)
		}
	}
}

func TestValid(t *testing.T) {
	for name, change := range kept() {
		s := rich()
		change(&s)
		if !schema.Valid(s) {
			t.Errorf("%s: not valid", name)
		}
	}
	for name, s := range invalid() {
		if schema.Valid(s) {
			t.Errorf("%s: valid", name)
		}
	}
	if !schema.Valid(schema.Empty()) {
		t.Error("Empty is not valid")
	}
}

func TestValidOfLongLists(t *testing.T) {
	s := api.Schema{Groups: make([]api.Group, 1<<20)}
	if schema.Valid(s) {
		t.Error("many groups are valid")
	}
	s = rich()
	s.Groups[0].Vars[tempAt].Dims = slices.Repeat([]string{"t"}, 1<<20)
	s.Groups[0].Vars[tempAt].Chunks = slices.Repeat([]int{1024}, 1<<20)
	if schema.Valid(s) {
		t.Error("many dimensions are valid")
	}
}

func TestEmpty(t *testing.T) {
	s := schema.Empty()
	if len(s.Groups) != 1 || s.Groups[0].Path != "/" || len(s.Groups[0].Dims)+len(s.Groups[0].Vars)+len(s.Groups[0].Attrs) != 0 {
		t.Errorf("Empty: %v", s)
	}
	s.Groups[0].Path = "/a"
	if schema.Empty().Groups[0].Path != "/" {
		t.Error("two calls of Empty share memory")
	}
}

// differences are changes of rich, each of one field.
func differences() []func(s *api.Schema) {
	temp := func(s *api.Schema) *api.Var { return &s.Groups[0].Vars[tempAt] }
	return []func(s *api.Schema){
		func(s *api.Schema) { s.Groups = s.Groups[:4] },
		func(s *api.Schema) { s.Groups[3].Path = "/a/b/d" },
		func(s *api.Schema) { s.Groups[0].Dims = s.Groups[0].Dims[:1] },
		func(s *api.Schema) { s.Groups[0].Dims[0].Name = "u" },
		func(s *api.Schema) { s.Groups[0].Dims[0].Size = 4 },
		func(s *api.Schema) { s.Groups[0].Dims[0].Open = false },
		func(s *api.Schema) { s.Groups[0].Vars = s.Groups[0].Vars[1:] },
		func(s *api.Schema) { s.Groups[1].Attrs = nil },
		func(s *api.Schema) { s.Groups[1].Attrs[0].Name = "full" },
		func(s *api.Schema) { s.Groups[1].Attrs[0].Text = "full" },
		func(s *api.Schema) { s.Groups[1].Attrs[0].Kind = api.AttrNums },
		func(s *api.Schema) { s.Groups[1].Attrs[0].Nums = []string{""} },
		func(s *api.Schema) { temp(s).Name = "tempo" },
		func(s *api.Schema) { temp(s).Type = api.TypeI32 },
		func(s *api.Schema) { slices.Reverse(temp(s).Dims) },
		func(s *api.Schema) { slices.Reverse(temp(s).Chunks) },
		func(s *api.Schema) { temp(s).Fill = "" },
		func(s *api.Schema) { temp(s).Unit = "" },
		func(s *api.Schema) { temp(s).Stages = temp(s).Stages[:3] },
		func(s *api.Schema) { temp(s).Stages[0].Kind = api.StageDict },
		func(s *api.Schema) { temp(s).Stages[0].N = 1 },
		func(s *api.Schema) { temp(s).Stages[0].Step = "6" },
		func(s *api.Schema) { temp(s).Attrs = temp(s).Attrs[:1] },
		func(s *api.Schema) { temp(s).Attrs[0].Text = "" },
		func(s *api.Schema) { temp(s).Attrs[1].Nums[1] = "201" },
	}
}

func TestEqual(t *testing.T) {
	if !schema.Equal(rich(), rich()) || !schema.Equal(api.Schema{}, api.Schema{Groups: []api.Group{}}) {
		t.Error("the same schemas are not equal")
	}
	for i, change := range differences() {
		s := rich()
		change(&s)
		if schema.Equal(s, rich()) || schema.Equal(rich(), s) || !schema.Equal(s, s) {
			t.Errorf("difference %d is not seen", i)
		}
	}
	for name, change := range broken() {
		s := rich()
		change(&s)
		if schema.Equal(s, rich()) || !schema.Equal(s, s) {
			t.Errorf("%s: equal", name)
		}
	}
}

func TestEqualOfEmptyLists(t *testing.T) {
	bare := api.Schema{Groups: []api.Group{{Path: "/", Vars: []api.Var{{Name: "v"}}, Attrs: []api.Attr{{Name: "a"}}}}}
	other := api.Schema{Groups: []api.Group{{Path: "/", Dims: []api.Dim{}, Vars: []api.Var{{Name: "v", Dims: []string{}, Chunks: []int{}, Stages: []api.Stage{}, Attrs: []api.Attr{}}}, Attrs: []api.Attr{{Name: "a", Nums: []string{}}}}}}
	if !schema.Equal(bare, other) || !schema.Equal(other, bare) {
		t.Error("empty and nil lists are not the same")
	}
}
