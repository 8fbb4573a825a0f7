package schema_test

import (
	"math"
	"slices"
	"strings"
	"testing"

	"arrayarchive/api"
	"arrayarchive/schema"
)

// P3.4

// changed is a change of a schema, and what must come of it.
type changed struct {
	name string
	from api.Schema
	c    api.Change
	want api.Errno
}

func checkAll(t *testing.T, l []changed) {
	t.Helper()
	for _, x := range l {
		s, errno := schema.Apply(x.from, x.c)
		if errno != x.want {
			t.Errorf("%s: error %d, want %d", x.name, errno, x.want)
		}
		if errno != api.OK && !isEmpty(s) || errno == api.OK && !schema.Valid(s) {
			t.Errorf("%s: error %d with the schema %v", x.name, errno, s)
		}
	}
}

// becomes checks that a change of rich makes what an edit by hand makes of it.
func becomes(t *testing.T, c api.Change, edit func(s *api.Schema)) {
	t.Helper()
	want := rich()
	edit(&want)
	before := rich()
	got, errno := schema.Apply(before, c)
	if errno != api.OK || !schema.Equal(got, want) {
		t.Errorf("kind %d: %v, error %d", c.Kind, got, errno)
	}
	if !schema.Equal(before, rich()) {
		t.Errorf("kind %d: the argument is changed", c.Kind)
	}
}

// full returns a schema with full lists: 16 groups, and in /a all lists, also that of the attributes of its first variable.
func full() api.Schema {
	s := schema.Empty()
	for i := range 15 {
		s.Groups = append(s.Groups, group("/"+string(rune('a'+i))))
	}
	s.Groups[1].Dims, s.Groups[1].Vars, s.Groups[1].Attrs = dims(16), vars(24), attrs(16)
	s.Groups[1].Vars[0].Attrs = attrs(16)
	return s
}

var badNames = []string{"", "A", "a b", "1a", "abcdefghijklmnopq", "/", "\u00e9"}

func TestUnknownKinds(t *testing.T) {
	for _, kind := range []int{0, 12, 13, -1, 256 + api.AddGroup, math.MaxInt, math.MinInt} {
		checkAll(t, []changed{{"unknown", rich(), api.Change{Kind: kind, Path: "/a/b/c/d", Name: "t", New: "q"}, api.ErrSchema}})
	}
}

func TestAddGroup(t *testing.T) {
	becomes(t, api.Change{Kind: api.AddGroup, Path: "/a/c"}, func(s *api.Schema) { s.Groups = slices.Insert(s.Groups, 4, group("/a/c")) })
	becomes(t, api.Change{Kind: api.AddGroup, Path: "/a/b/c/d"}, func(s *api.Schema) { s.Groups = slices.Insert(s.Groups, 4, group("/a/b/c/d")) })
	becomes(t, api.Change{Kind: api.AddGroup, Path: "/a0"}, func(s *api.Schema) { s.Groups = slices.Insert(s.Groups, 4, group("/a0")) })
	becomes(t, api.Change{Kind: api.AddGroup, Path: "/z"}, func(s *api.Schema) { s.Groups = append(s.Groups, group("/z")) })
	add := func(path string) api.Change { return api.Change{Kind: api.AddGroup, Path: path} }
	l := []changed{
		{"below nothing", rich(), add("/q/r"), api.ErrNone},
		{"two below", rich(), add("/a/c/d"), api.ErrNone},
		{"beside", rich(), add("/b/c"), api.ErrNone},
		{"there", rich(), add("/a/b"), api.ErrExists},
		{"/", rich(), add("/"), api.ErrExists},
		{"too deep", rich(), add("/a/b/c/d/e"), api.ErrName},
		{"the 17th", full(), add("/z"), api.ErrLimit},
		{"the 17th, there", full(), add("/a"), api.ErrExists},
		{"the 17th below nothing", full(), add("/z/z"), api.ErrNone},
	}
	for _, path := range []string{"", "a", "/A", "/a/", "//", "/a/b c"} {
		l = append(l, changed{"the path " + path, rich(), add(path), api.ErrName})
	}
	checkAll(t, l)
}

func TestDropGroup(t *testing.T) {
	becomes(t, api.Change{Kind: api.DropGroup, Path: "/a/b/c"}, func(s *api.Schema) { s.Groups = slices.Delete(s.Groups, 3, 4) })
	drop := func(path string) api.Change { return api.Change{Kind: api.DropGroup, Path: path} }
	empty := api.Schema{Groups: []api.Group{{Path: "/"}, {Path: "/a", Dims: dims(2), Attrs: attrs(2)}, {Path: "/a0"}, {Path: "/a0/b"}}}
	if s, errno := schema.Apply(empty, drop("/a")); errno != api.OK || len(s.Groups) != 3 || s.Groups[1].Path != "/a0" {
		t.Errorf("dimensions and attributes do not go with a group: %v, error %d", s, errno)
	}
	checkAll(t, []changed{
		{"/", rich(), drop("/"), api.ErrName},
		{"/ alone", schema.Empty(), drop("/"), api.ErrName},
		{"a bad path", rich(), drop("/A"), api.ErrName},
		{"an empty path", rich(), drop(""), api.ErrName},
		{"none", rich(), drop("/q"), api.ErrNone},
		{"none below", rich(), drop("/a/b/d"), api.ErrNone},
		{"a group below", empty, drop("/a0"), api.ErrUsed},
		{"a variable", rich(), drop("/a_b"), api.ErrUsed},
		{"a group below and a variable", rich(), drop("/a/b"), api.ErrUsed},
		{"the last of a full list", full(), drop("/o"), api.OK},
	})
}

func TestAddDim(t *testing.T) {
	becomes(t, api.Change{Kind: api.AddDim, Path: "/", Dim: api.Dim{Name: "u", Size: 1024, Open: true}}, func(s *api.Schema) {
		s.Groups[0].Dims = slices.Insert(s.Groups[0].Dims, 1, api.Dim{Name: "u", Size: 1024, Open: true})
	})
	becomes(t, api.Change{Kind: api.AddDim, Path: "/a/b/c", Dim: api.Dim{Name: "t"}}, func(s *api.Schema) { s.Groups[3].Dims = []api.Dim{{Name: "t"}} })
	add := func(path, name string, size int) api.Change {
		return api.Change{Kind: api.AddDim, Path: path, Dim: api.Dim{Name: name, Size: size}}
	}
	l := []changed{
		{"no group", rich(), add("/q", "q", 1), api.ErrNone},
		{"no path", rich(), add("q", "q", 1), api.ErrNone},
		{"there", rich(), add("/", "t", 1), api.ErrExists},
		{"there, too long", rich(), add("/", "t", 5000), api.ErrExists},
		{"used in the group", rich(), add("/a", "t", 1), api.ErrUsed},
		{"used below alone", rich(), add("/a/b", "y", 1), api.ErrUsed},
		{"used below, where another one is meant", rich(), add("/", "y", 1), api.ErrUsed},
		{"used beside", rich(), add("/a_b", "y", 1), api.OK},
		{"used above", rich(), add("/a/b/c", "x", 1), api.OK},
		{"used, too long", rich(), add("/a", "t", 5000), api.ErrUsed},
		{"too long", rich(), add("/a", "q", 1025), api.ErrLimit},
		{"much too long", rich(), add("/a", "q", math.MaxInt), api.ErrLimit},
		{"negative", rich(), add("/a", "q", -1), api.ErrSchema},
		{"the 17th", full(), add("/a", "q", 1), api.ErrLimit},
		{"the 17th, negative", full(), add("/a", "q", -1), api.ErrLimit},
		{"the 17th, there", full(), add("/a", "da", 1), api.ErrExists},
	}
	for _, name := range badNames {
		l = append(l, changed{"the name " + name, rich(), add("/q", name, 5000), api.ErrName})
	}
	checkAll(t, l)
}

func TestDropDim(t *testing.T) {
	s := many()
	got, errno := schema.Apply(s, api.Change{Kind: api.DropDim, Path: "/a_b", Name: "free"})
	if errno != api.OK || len(got.Groups[4].Dims) != 1 || got.Groups[4].Dims[0].Name != "t" {
		t.Errorf("DropDim: %v, error %d", got, errno)
	}
	// The variable of /a means the dimension of /a.
	shadow := api.Schema{Groups: []api.Group{
		{Path: "/", Dims: []api.Dim{{Name: "t", Size: 2}}},
		{Path: "/a", Dims: []api.Dim{{Name: "t", Size: 3}}, Vars: []api.Var{{Name: "v", Type: api.TypeI8, Dims: []string{"t"}, Chunks: []int{1}}}},
	}}
	drop := func(path, name string) api.Change { return api.Change{Kind: api.DropDim, Path: path, Name: name} }
	checkAll(t, []changed{
		{"shadowed", shadow, drop("/", "t"), api.OK},
		{"shadowing", shadow, drop("/a", "t"), api.ErrUsed},
		{"used", rich(), drop("/", "x"), api.ErrUsed},
		{"used below alone", api.Schema{Groups: []api.Group{{Path: "/", Dims: []api.Dim{{Name: "t"}}}, {Path: "/a"}, {Path: "/a/b", Vars: shadow.Groups[1].Vars}}}, drop("/", "t"), api.ErrUsed},
		{"no group", rich(), drop("/q", "t"), api.ErrNone},
		{"above alone", rich(), drop("/a", "t"), api.ErrNone},
		{"no dimension", rich(), drop("/", "temp"), api.ErrNone},
		{"a bad name", rich(), drop("/", "A"), api.ErrNone},
	})
}

func TestNameDim(t *testing.T) {
	becomes(t, api.Change{Kind: api.NameDim, Path: "/", Name: "t", New: "z"}, func(s *api.Schema) {
		s.Groups[0].Dims = []api.Dim{{Name: "x", Size: 200}, {Name: "z", Size: 3, Open: true}}
		s.Groups[0].Vars[0].Dims[0] = "z"
		s.Groups[0].Vars[tempAt].Dims[0] = "z"
		s.Groups[1].Vars[wAt].Dims[1] = "z"
		s.Groups[2].Vars[0].Dims[2] = "z"
	})
	becomes(t, api.Change{Kind: api.NameDim, Path: "/a", Name: "x", New: "lat"}, func(s *api.Schema) {
		s.Groups[1].Dims[0].Name = "lat"
		s.Groups[1].Vars[wAt].Dims[0] = "lat"
		s.Groups[1].Vars[2].Dims[0] = "lat"
		s.Groups[2].Vars[0].Dims[1] = "lat"
	})
	name := func(path, name, new string) api.Change {
		return api.Change{Kind: api.NameDim, Path: path, Name: name, New: new}
	}
	l := []changed{
		{"no group", rich(), name("/q", "t", "z"), api.ErrNone},
		{"above alone", rich(), name("/a", "t", "z"), api.ErrNone},
		{"no dimension", rich(), name("/", "q", "t"), api.ErrNone},
		{"the same", rich(), name("/", "t", "t"), api.ErrExists},
		{"there", rich(), name("/", "t", "x"), api.ErrExists},
		{"a user has it", rich(), name("/a", "x", "t"), api.ErrUsed},
		{"another variable has it", rich(), name("/", "x", "y"), api.ErrUsed},
		{"a variable beside has it", rich(), name("/a_b", "t", "y"), api.OK},
		{"a variable above has it", rich(), name("/a_b", "t", "x"), api.OK},
	}
	for _, bad := range badNames {
		l = append(l, changed{"the name " + bad, rich(), name("/q", "q", bad), api.ErrName})
	}
	checkAll(t, l)
}

// A dimension does not get a name that its users see another dimension by.
func TestNameDimHidden(t *testing.T) {
	user := []api.Var{{Name: "v", Type: api.TypeI8, Dims: []string{"t"}, Chunks: []int{1}}}
	q := []api.Dim{{Name: "q", Size: 5}}
	base := func() api.Schema {
		return api.Schema{Groups: []api.Group{{Path: "/"}, {Path: "/a", Dims: []api.Dim{{Name: "t", Size: 2}}, Vars: user}, {Path: "/a/b"}, {Path: "/a/b/c", Vars: user}, {Path: "/a/b/c/d"}, {Path: "/a/c"}}}
	}
	for at, want := range []api.Errno{api.OK, api.ErrExists, api.ErrUsed, api.ErrUsed, api.OK, api.OK} {
		s := base()
		s.Groups[at].Dims = append(slices.Clone(q), s.Groups[at].Dims...)
		got, errno := schema.Apply(s, api.Change{Kind: api.NameDim, Path: "/a", Name: "t", New: "q"})
		if errno != want {
			t.Errorf("q in %s: error %d, want %d", s.Groups[at].Path, errno, want)
		}
		if errno != api.OK {
			continue
		}
		for _, path := range []string{"/a", "/a/b/c"} {
			if shape, errno := schema.Shape(got, path, "v"); !slices.Equal(shape, []int{2}) || errno != api.OK {
				t.Errorf("q in %s: v of %s has the shape %v, error %d", s.Groups[at].Path, path, shape, errno)
			}
		}
	}
}

func TestGrow(t *testing.T) {
	becomes(t, api.Change{Kind: api.Grow, Path: "/", Name: "t", Size: 17}, func(s *api.Schema) { s.Groups[0].Dims[0].Size = 20 })
	becomes(t, api.Change{Kind: api.Grow, Path: "/", Name: "t"}, func(s *api.Schema) {})
	becomes(t, api.Change{Kind: api.Grow, Path: "/a", Name: "y", Size: 682}, func(s *api.Schema) { s.Groups[1].Dims[1].Size = 682 })
	grow := func(path, name string, size int) api.Change {
		return api.Change{Kind: api.Grow, Path: path, Name: name, Size: size}
	}
	free := api.Schema{Groups: []api.Group{{Path: "/", Dims: []api.Dim{{Name: "t", Size: 24, Open: true}}}}}
	checkAll(t, []changed{
		{"no group", rich(), grow("/q", "t", 1), api.ErrNone},
		{"above alone", rich(), grow("/a", "t", 1), api.ErrNone},
		{"no dimension", rich(), grow("/", "temp", -1), api.ErrNone},
		{"fixed", rich(), grow("/", "x", 1), api.ErrFixed},
		{"fixed, by 0", rich(), grow("/", "x", 0), api.ErrFixed},
		{"fixed, negative", rich(), grow("/", "x", -1), api.ErrFixed},
		{"negative", rich(), grow("/", "t", -1), api.ErrLimit},
		{"the least", rich(), grow("/", "t", math.MinInt), api.ErrLimit},
		{"the greatest", rich(), grow("/", "t", math.MaxInt), api.ErrLimit},
		{"to 1024", free, grow("/", "t", 1000), api.OK},
		{"to 1025", free, grow("/", "t", 1001), api.ErrLimit},
		{"4000 elements", rich(), grow("/", "t", 17), api.OK},
		{"4200 elements", rich(), grow("/", "t", 18), api.ErrLimit},
		{"4092 elements below", rich(), grow("/a", "y", 682), api.OK},
		{"4098 elements below", rich(), grow("/a", "y", 683), api.ErrLimit},
	})
}

func TestAddVar(t *testing.T) {
	v := api.Var{Name: "v", Type: api.TypeI8, Dims: []string{"t", "x"}, Chunks: []int{2, 2}, Fill: "7", Unit: "m", Stages: []api.Stage{{Kind: api.StagePack, N: 3}}, Attrs: attrs(16)}
	becomes(t, api.Change{Kind: api.AddVar, Path: "/a/b/c", Var: v}, func(s *api.Schema) { s.Groups[3].Vars = []api.Var{v} })
	becomes(t, api.Change{Kind: api.AddVar, Path: "/a", Var: v}, func(s *api.Schema) { s.Groups[1].Vars = slices.Insert(s.Groups[1].Vars, 1, v) })
	add := func(path string, edit func(v *api.Var)) api.Change {
		v := api.Var{Name: "v", Type: api.TypeI8, Dims: []string{"t", "x"}, Chunks: []int{2, 2}}
		edit(&v)
		return api.Change{Kind: api.AddVar, Path: path, Var: v}
	}
	long := many()
	long.Groups[0].Dims[0].Size = 20
	long.Groups[3].Dims = dims(5)
	five := func(v *api.Var) { v.Dims, v.Chunks = []string{"db", "db", "dc", "dd", "de"}, []int{1, 1, 1, 1, 1} }
	all := func(v *api.Var) { v.Dims, v.Chunks = []string{"a", "b", "c", "d"}, []int{1, 1, 1, 1} }
	edge := api.Schema{Groups: []api.Group{{Path: "/", Dims: []api.Dim{{Name: "s", Size: 17}, {Name: "t", Size: 16}, {Name: "x", Size: 256}, {Name: "y", Size: 241}}}}}
	deep := api.Schema{Groups: []api.Group{{Path: "/", Dims: fourLong()}}}
	checkAll(t, []changed{
		{"no group", rich(), add("/q", func(v *api.Var) {}), api.ErrNone},
		{"no group, not valid", rich(), add("/q", func(v *api.Var) { v.Type = 9 }), api.ErrNone},
		{"there", rich(), add("/a", func(v *api.Var) { v.Name = "w" }), api.ErrExists},
		{"there, not valid", rich(), add("/a", func(v *api.Var) { *v = api.Var{Name: "w"} }), api.ErrExists},
		{"of a dimension", rich(), add("/", func(v *api.Var) { v.Name = "x" }), api.OK},
		{"the 25th", full(), add("/a", func(v *api.Var) { v.Dims, v.Chunks = nil, nil }), api.ErrLimit},
		{"the 25th, not valid", full(), add("/a", func(v *api.Var) { v.Dims, v.Chunks, v.Type = nil, nil, 9 }), api.ErrLimit},
		{"no dimension", rich(), add("/a", func(v *api.Var) { v.Dims[0] = "q" }), api.ErrSchema},
		{"4000 elements", long, add("/", func(v *api.Var) {}), api.OK},
		{"4097 elements", edge, add("/", func(v *api.Var) { v.Dims[0], v.Dims[1] = "s", "y" }), api.ErrLimit},
		{"4096 elements", edge, add("/", func(v *api.Var) {}), api.OK},
		{"a name twice", edge, add("/", func(v *api.Var) { v.Dims[1] = "t" }), api.ErrSchema},
		{"a long name twice", long, add("/", func(v *api.Var) { v.Dims[0] = "x" }), api.ErrLimit},
		{"one of no dimensions", long, add("/", func(v *api.Var) { v.Dims, v.Chunks = []string{"x", "x", "x", "q"}, []int{1, 1, 1, 1} }), api.ErrSchema},
		{"many, not valid", long, add("/", func(v *api.Var) { v.Dims[0], v.Fill = "x", "1/2" }), api.ErrLimit},
		{"2^40 elements", deep, add("/", all), api.ErrLimit},
		{"five dimensions", long, add("/a/b/c", five), api.ErrSchema},
		{"five long dimensions", deep, add("/", func(v *api.Var) { v.Dims, v.Chunks = []string{"a", "b", "c", "d", "a"}, []int{1, 1, 1, 1, 1} }), api.ErrSchema},
		{"17 attributes", rich(), add("/a", func(v *api.Var) { v.Attrs = attrs(17) }), api.ErrSchema},
		{"chunks of 1025", rich(), add("/a", func(v *api.Var) { v.Chunks[0] = 1025 }), api.ErrSchema},
		{"chunks of 4097", rich(), add("/a", func(v *api.Var) { v.Chunks = []int{17, 241} }), api.ErrSchema},
	})
	for _, name := range badNames {
		checkAll(t, []changed{{"the name " + name, rich(), add("/q", func(v *api.Var) { v.Name = name }), api.ErrName}})
	}
}

// What is no valid variable cannot be added.
func TestAddVarNotValid(t *testing.T) {
	base := rich()
	base.Groups[0].Vars = base.Groups[0].Vars[:tempAt]
	for name, change := range brokenVars() {
		v := rich().Groups[0].Vars[tempAt]
		change(&v)
		want := api.ErrSchema
		if !schema.ValidName(v.Name) {
			want = api.ErrName
		}
		checkAll(t, []changed{{name, base, api.Change{Kind: api.AddVar, Path: "/", Var: v}, want}})
	}
	for name, a := range brokenAttrs() {
		v := api.Var{Name: "v", Type: api.TypeI8, Attrs: []api.Attr{a}}
		checkAll(t, []changed{{name, base, api.Change{Kind: api.AddVar, Path: "/", Var: v}, api.ErrSchema}})
	}
}

func TestDropVar(t *testing.T) {
	becomes(t, api.Change{Kind: api.DropVar, Path: "/", Name: "t"}, func(s *api.Schema) { s.Groups[0].Vars = s.Groups[0].Vars[tempAt:] })
	becomes(t, api.Change{Kind: api.DropVar, Path: "/a/b", Name: "deep"}, func(s *api.Schema) { s.Groups[2].Vars = nil })
	drop := func(path, name string) api.Change { return api.Change{Kind: api.DropVar, Path: path, Name: name} }
	checkAll(t, []changed{
		{"no group", rich(), drop("/q", "t"), api.ErrNone}, {"no path", rich(), drop("", "t"), api.ErrNone}, {"no variable", rich(), drop("/", "x"), api.ErrNone}, {"above alone", rich(), drop("/a", "temp"), api.ErrNone}, {"no name", rich(), drop("/", ""), api.ErrNone},
	})
}

func TestNameVar(t *testing.T) {
	becomes(t, api.Change{Kind: api.NameVar, Path: "/", Name: "temp", New: "a"}, func(s *api.Schema) {
		slices.Reverse(s.Groups[0].Vars)
		s.Groups[0].Vars[0].Name = "a"
	})
	becomes(t, api.Change{Kind: api.NameVar, Path: "/", Name: "t", New: "x"}, func(s *api.Schema) {
		slices.Reverse(s.Groups[0].Vars)
		s.Groups[0].Vars[1].Name = "x"
	})
	name := func(path, name, new string) api.Change {
		return api.Change{Kind: api.NameVar, Path: path, Name: name, New: new}
	}
	l := []changed{
		{"no group", rich(), name("/q", "t", "z"), api.ErrNone}, {"no variable", rich(), name("/", "x", "t"), api.ErrNone}, {"no name", rich(), name("/", "", "t"), api.ErrNone},
		{"the same", rich(), name("/", "t", "t"), api.ErrExists}, {"there", rich(), name("/", "t", "temp"), api.ErrExists}, {"there below", rich(), name("/", "t", "w"), api.OK},
		{"in a full list", full(), name("/a", "va", "z"), api.OK},
	}
	for _, bad := range badNames {
		l = append(l, changed{"the name " + bad, rich(), name("/q", "q", bad), api.ErrName})
	}
	checkAll(t, l)
}

func TestSetAttr(t *testing.T) {
	nums := api.Attr{Name: "long", Kind: api.AttrNums, Nums: []string{"1", "1/2"}}
	becomes(t, api.Change{Kind: api.SetAttr, Path: "/", Name: "temp", Attr: nums}, func(s *api.Schema) { s.Groups[0].Vars[tempAt].Attrs[0] = nums })
	becomes(t, api.Change{Kind: api.SetAttr, Path: "/a", Attr: nums}, func(s *api.Schema) { s.Groups[1].Attrs = append(s.Groups[1].Attrs, nums) })
	becomes(t, api.Change{Kind: api.SetAttr, Path: "/a", Attr: attr("a")}, func(s *api.Schema) { s.Groups[1].Attrs = append([]api.Attr{attr("a")}, s.Groups[1].Attrs...) })
	becomes(t, api.Change{Kind: api.SetAttr, Path: "/a", Name: "w", Attr: attr("a")}, func(s *api.Schema) { s.Groups[1].Vars[wAt].Attrs = []api.Attr{attr("a")} })
	set := func(path, name string, a api.Attr) api.Change {
		return api.Change{Kind: api.SetAttr, Path: path, Name: name, Attr: a}
	}
	l := []changed{
		{"no group", rich(), set("/q", "", nums), api.ErrNone}, {"no group of a variable", rich(), set("/q", "temp", nums), api.ErrNone}, {"no variable", rich(), set("/", "x", nums), api.ErrNone}, {"no variable, not valid", rich(), set("/", "x", api.Attr{Name: "a"}), api.ErrNone},
		{"the 17th of a group", full(), set("/a", "", attr("z")), api.ErrLimit}, {"the 17th of a variable", full(), set("/a", "va", attr("z")), api.ErrLimit}, {"the 17th, not valid", full(), set("/a", "va", api.Attr{Name: "z"}), api.ErrLimit},
		{"one of 16 of a group", full(), set("/a", "", attr("ab")), api.OK}, {"one of 16 of a variable", full(), set("/a", "va", attr("ab")), api.OK}, {"the first one beside", full(), set("/a", "vb", attr("z")), api.OK},
	}
	for name, a := range brokenAttrs() {
		want := api.ErrSchema
		if !schema.ValidName(a.Name) {
			want = api.ErrName
		}
		l = append(l, changed{name, rich(), set("/a", "", a), want}, changed{name + " of a variable", rich(), set("/a", "w", a), want})
	}
	for _, bad := range badNames {
		l = append(l, changed{"the name " + bad, rich(), set("/q", "q", attr(bad)), api.ErrName})
	}
	checkAll(t, l)
}

func TestDropAttr(t *testing.T) {
	becomes(t, api.Change{Kind: api.DropAttr, Path: "/", Name: "temp", New: "long"}, func(s *api.Schema) { s.Groups[0].Vars[tempAt].Attrs = s.Groups[0].Vars[tempAt].Attrs[1:] })
	becomes(t, api.Change{Kind: api.DropAttr, Path: "/a", New: "empty"}, func(s *api.Schema) { s.Groups[1].Attrs = nil })
	drop := func(path, name, attr string) api.Change {
		return api.Change{Kind: api.DropAttr, Path: path, Name: name, New: attr}
	}
	checkAll(t, []changed{
		{"no group", rich(), drop("/q", "", "empty"), api.ErrNone}, {"no variable", rich(), drop("/a", "q", "empty"), api.ErrNone}, {"of the group alone", rich(), drop("/a", "w", "empty"), api.ErrNone}, {"of a variable alone", rich(), drop("/", "", "long"), api.ErrNone}, {"no name", rich(), drop("/a", "", ""), api.ErrNone}, {"a bad name", rich(), drop("/a", "", "A"), api.ErrNone},
	})
}

// Fields that a kind does not name are not looked at.
func TestOtherFields(t *testing.T) {
	bad := api.Change{Name: "A B", New: "A B", Size: -1, Dim: api.Dim{Name: "A B", Size: -1}, Var: api.Var{Name: "A B", Type: -1}, Attr: api.Attr{Name: "A B", Kind: -1}}
	with := func(kind int, path string, edit func(c *api.Change)) api.Change {
		c := bad
		c.Kind, c.Path = kind, path
		edit(&c)
		return c
	}
	checkAll(t, []changed{
		{"AddGroup", rich(), with(api.AddGroup, "/q", func(c *api.Change) {}), api.OK},
		{"DropGroup", rich(), with(api.DropGroup, "/a/b/c", func(c *api.Change) {}), api.OK},
		{"AddDim", rich(), with(api.AddDim, "/", func(c *api.Change) { c.Dim = api.Dim{Name: "q"} }), api.OK},
		{"DropDim", many(), with(api.DropDim, "/a_b", func(c *api.Change) { c.Name = "free" }), api.OK},
		{"NameDim", rich(), with(api.NameDim, "/", func(c *api.Change) { c.Name, c.New = "t", "q" }), api.OK},
		{"Grow", rich(), with(api.Grow, "/", func(c *api.Change) { c.Name, c.Size = "t", 1 }), api.OK},
		{"AddVar", rich(), with(api.AddVar, "/", func(c *api.Change) { c.Var = api.Var{Name: "q", Type: api.TypeI8} }), api.OK},
		{"DropVar", rich(), with(api.DropVar, "/", func(c *api.Change) { c.Name = "t" }), api.OK},
		{"NameVar", rich(), with(api.NameVar, "/", func(c *api.Change) { c.Name, c.New = "t", "q" }), api.OK},
		{"SetAttr", rich(), with(api.SetAttr, "/", func(c *api.Change) { c.Name, c.Attr = "t", attr("q") }), api.OK},
		{"DropAttr", rich(), with(api.DropAttr, "/", func(c *api.Change) { c.Name, c.New = "temp", "long" }), api.OK},
	})
}

func TestApplyKeepsNothing(t *testing.T) {
	v := rich().Groups[0].Vars[tempAt]
	v.Name = "v"
	a := api.Attr{Name: "a", Kind: api.AttrNums, Nums: []string{"1"}}
	before := rich()
	var results []api.Schema
	var texts []string
	for _, c := range []api.Change{{Kind: api.AddVar, Path: "/", Var: v}, {Kind: api.SetAttr, Path: "/", Attr: a}, {Kind: api.SetAttr, Path: "/", Name: "temp", Attr: a}, {Kind: api.NameDim, Path: "/", Name: "t", New: "z"}, {Kind: api.AddGroup, Path: "/z"}} {
		s, errno := schema.Apply(before, c)
		text, e := schema.Print(s)
		if errno != api.OK || e != api.OK {
			t.Fatalf("kind %d: errors %d, %d", c.Kind, errno, e)
		}
		results, texts = append(results, s), append(texts, text)
	}
	v.Dims[0], v.Chunks[0], v.Stages[0].N, v.Attrs[0].Name, v.Attrs[1].Nums[0], a.Nums[0] = "q", 7, 7, "q", "7", "7"
	wipe(before)
	for i, s := range results {
		if text, _ := schema.Print(s); text != texts[i] {
			t.Errorf("result %d of Apply shares memory with an argument:\n%s\n%s", i, texts[i], text)
		}
	}
}

// wipe overwrites all memory of a schema.
func wipe(s api.Schema) {
	for _, g := range s.Groups {
		for _, v := range g.Vars {
			for _, a := range v.Attrs {
				clear(a.Nums)
			}
			clear(v.Dims)
			clear(v.Chunks)
			clear(v.Stages)
			clear(v.Attrs)
		}
		for _, a := range g.Attrs {
			clear(a.Nums)
		}
		clear(g.Dims)
		clear(g.Vars)
		clear(g.Attrs)
	}
	clear(s.Groups)
}

// The room behind a list belongs to the caller.
func TestApplyWritesNothingBehindLists(t *testing.T) {
	before := rich()
	for i := range before.Groups {
		g := &before.Groups[i]
		g.Dims, g.Vars, g.Attrs = slices.Grow(g.Dims, 1), slices.Grow(g.Vars, 1), slices.Grow(g.Attrs, 1)
	}
	for _, c := range []api.Change{{Kind: api.AddDim, Path: "/", Dim: api.Dim{Name: "z"}}, {Kind: api.AddVar, Path: "/", Var: vars(1)[0]}, {Kind: api.SetAttr, Path: "/", Attr: attr("z")}} {
		if _, errno := schema.Apply(before, c); errno != api.OK {
			t.Fatalf("kind %d: error %d", c.Kind, errno)
		}
	}
	g := before.Groups[0]
	if !schema.Equal(before, rich()) || g.Dims[:3][2].Name != "" || g.Vars[:3][2].Name != "" || g.Attrs[:1][0].Name != "" {
		t.Error("something is written behind a list")
	}
}

func TestApplyOfLongArguments(t *testing.T) {
	long := strings.Repeat("a", 1<<20)
	for kind := range 13 {
		c := api.Change{Kind: kind, Path: "/" + long, Name: long, New: long, Size: math.MaxInt, Dim: api.Dim{Name: long, Size: math.MaxInt}, Var: api.Var{Name: long, Dims: []string{long}, Chunks: []int{math.MaxInt}}, Attr: api.Attr{Name: long, Text: long}}
		if s, errno := schema.Apply(rich(), c); errno == api.OK || !isEmpty(s) {
			t.Errorf("kind %d: no error", kind)
		}
		c = api.Change{Kind: kind, Path: "/", Name: "temp", Var: api.Var{Name: "v", Type: api.TypeI8, Dims: slices.Repeat([]string{"t"}, 1<<20), Chunks: slices.Repeat([]int{1024}, 1<<20)}, Attr: api.Attr{Name: "a", Kind: api.AttrNums, Nums: slices.Repeat([]string{"1"}, 1<<20)}}
		if s, errno := schema.Apply(rich(), c); errno == api.OK && kind != api.DropVar || errno != api.OK && !isEmpty(s) {
			t.Errorf("kind %d: error %d", kind, errno)
		}
	}
}
