package schema_test

import (
	"slices"
	"strings"
	"testing"

	"arrayarchive/api"
	"arrayarchive/schema"
)

// nowhere are paths with names that mean nothing in rich.
var nowhere = [][2]string{{"/", "q"}, {"/", ""}, {"/q", "t"}, {"", "t"}, {"a", "x"}, {"/a/", "x"}, {"/a/b/c/d", "t"}, {"/A", "t"}, {"/", "T"}, {"/", "/t"}, {"", ""}, {"//", "t"}, {"/", strings.Repeat("t", 1<<20)}, {strings.Repeat("/a", 1<<20), "t"}}

// P3.3

func TestFind(t *testing.T) {
	s := rich()
	for _, g := range s.Groups {
		for _, v := range g.Vars {
			got, errno := schema.Find(s, g.Path, v.Name)
			if errno != api.OK || !sameVars(got, v) {
				t.Errorf("Find(%q, %q): %v, error %d", g.Path, v.Name, got, errno)
			}
		}
	}
	for _, c := range append([][2]string{{"/a", "temp"}, {"/", "w"}, {"/", "x"}, {"/a/b", "t"}, {"/a/b/c", "deep"}}, nowhere...) {
		if v, errno := schema.Find(s, c[0], c[1]); errno != api.ErrNone || !isZeroVar(v) {
			t.Errorf("Find(%.20q, %.20q): %v, error %d", c[0], c[1], v, errno)
		}
	}
}

// sameVars compares two variables as parts of schemas.
func sameVars(a, b api.Var) bool {
	return schema.Equal(api.Schema{Groups: []api.Group{{Vars: []api.Var{a}}}}, api.Schema{Groups: []api.Group{{Vars: []api.Var{b}}}})
}

func TestFindReturnsNewMemory(t *testing.T) {
	s := rich()
	v, _ := schema.Find(s, "/", "temp")
	v.Dims[0], v.Chunks[0], v.Stages[0].N, v.Attrs[0].Name, v.Attrs[1].Nums[0] = "q", 7, 7, "q", "7"
	if !schema.Equal(s, rich()) {
		t.Error("the result of Find shares memory with the schema")
	}
	shape, _ := schema.Shape(s, "/", "temp")
	shape[0] = 7
	if again, _ := schema.Shape(s, "/", "temp"); !schema.Equal(s, rich()) || again[0] != 3 {
		t.Error("the result of Shape shares memory")
	}
}

func TestResolve(t *testing.T) {
	s := rich()
	for _, c := range []struct {
		path, name, owner string
		want              api.Dim
	}{
		{"/", "t", "/", api.Dim{Name: "t", Size: 3, Open: true}},
		{"/", "x", "/", api.Dim{Name: "x", Size: 200}},
		{"/a", "t", "/", api.Dim{Name: "t", Size: 3, Open: true}},
		{"/a", "x", "/a", api.Dim{Name: "x", Size: 2}},
		{"/a/b", "x", "/a", api.Dim{Name: "x", Size: 2}},
		{"/a/b/c", "x", "/a", api.Dim{Name: "x", Size: 2}},
		{"/a/b/c", "t", "/", api.Dim{Name: "t", Size: 3, Open: true}},
		{"/a/b/c", "y", "/a", api.Dim{Name: "y", Open: true}},
		{"/a_b", "t", "/a_b", api.Dim{Name: "t", Size: 1}},
		{"/a_b", "x", "/", api.Dim{Name: "x", Size: 200}},
	} {
		if owner, d, errno := schema.Resolve(s, c.path, c.name); owner != c.owner || d != c.want || errno != api.OK {
			t.Errorf("Resolve(%q, %q): %q, %v, error %d", c.path, c.name, owner, d, errno)
		}
	}
	for _, c := range append([][2]string{{"/", "y"}, {"/a_b", "y"}, {"/", "temp"}}, nowhere...) {
		if owner, d, errno := schema.Resolve(s, c[0], c[1]); owner != "" || d != (api.Dim{}) || errno != api.ErrNone {
			t.Errorf("Resolve(%.20q, %.20q): %q, %v, error %d", c[0], c[1], owner, d, errno)
		}
	}
}

func TestShape(t *testing.T) {
	s := rich()
	for _, c := range []struct {
		path, name string
		want       []int
	}{
		{"/", "t", []int{3}}, {"/", "temp", []int{3, 200}}, {"/a", "one", nil}, {"/a", "w", []int{2, 3}}, {"/a", "x", []int{2, 0}}, {"/a/b", "deep", []int{0, 2, 3}}, {"/a_b", "t", []int{1}},
	} {
		if got, errno := schema.Shape(s, c.path, c.name); !slices.Equal(got, c.want) || errno != api.OK {
			t.Errorf("Shape(%q, %q): %v, error %d", c.path, c.name, got, errno)
		}
	}
	for _, c := range append([][2]string{{"/", "x"}, {"/a", "temp"}, {"/a/b", "t"}}, nowhere...) {
		if got, errno := schema.Shape(s, c[0], c[1]); len(got) != 0 || errno != api.ErrNone {
			t.Errorf("Shape(%.20q, %.20q): %v, error %d", c[0], c[1], got, errno)
		}
	}
}

func TestCoordinate(t *testing.T) {
	s := rich()
	for _, c := range [][3]string{{"/", "t", "/"}, {"/a", "t", "/"}, {"/a/b/c", "t", "/"}, {"/a_b", "t", "/a_b"}} {
		if got, errno := schema.Coordinate(s, c[0], c[1]); got != c[2] || errno != api.OK {
			t.Errorf("Coordinate(%q, %q): %q, error %d", c[0], c[1], got, errno)
		}
	}
	// The variable x of /a has two dimensions, y has no variable; the variable t of /a_b is not one for the t of /.
	for _, c := range append([][2]string{{"/", "x"}, {"/a", "x"}, {"/a/b", "x"}, {"/a", "y"}, {"/", "temp"}, {"/a", "one"}}, nowhere...) {
		if got, errno := schema.Coordinate(s, c[0], c[1]); got != "" || errno != api.ErrNone {
			t.Errorf("Coordinate(%.20q, %.20q): %q, error %d", c[0], c[1], got, errno)
		}
	}
}

// A coordinate is in the dimension's group itself, and over the dimension itself.
func TestNoCoordinate(t *testing.T) {
	overT := []string{"t"}
	s := api.Schema{Groups: []api.Group{
		{Path: "/", Dims: []api.Dim{{Name: "t", Size: 2}, {Name: "x", Size: 2}, {Name: "y", Size: 2}}, Vars: []api.Var{{Name: "x", Type: api.TypeI8, Dims: overT, Chunks: []int{1}}, {Name: "y", Type: api.TypeI8}}},
		{Path: "/a", Vars: []api.Var{{Name: "t", Type: api.TypeI8, Dims: overT, Chunks: []int{1}}}},
	}}
	for _, path := range []string{"/", "/a"} {
		for _, dim := range []string{"t", "x", "y"} {
			if got, errno := schema.Coordinate(s, path, dim); got != "" || errno != api.ErrNone {
				t.Errorf("Coordinate(%q, %q): %q, error %d", path, dim, got, errno)
			}
		}
	}
}

// joined returns the paths and names of variables.
func joined(l []api.Chunk) string {
	var words []string
	for _, c := range l {
		words = append(words, c.Path+":"+c.Name)
	}
	return strings.Join(words, " ")
}

// many returns rich with more users of its dimensions, and a dimension without any.
func many() api.Schema {
	user := func(name string, dims ...string) api.Var {
		return api.Var{Name: name, Type: api.TypeI8, Dims: dims, Chunks: slices.Repeat([]int{1}, len(dims))}
	}
	s := rich()
	s.Groups[0].Vars = slices.Insert(s.Groups[0].Vars, 0, user("a", "x", "t"))
	s.Groups[1].Vars = append(s.Groups[1].Vars, user("x2", "t"))
	s.Groups[4].Dims = append([]api.Dim{{Name: "free", Size: 1}}, s.Groups[4].Dims...)
	s.Groups[4].Vars = append(s.Groups[4].Vars, user("v", "x", "t"))
	return s
}

func TestUsers(t *testing.T) {
	s := many()
	for _, c := range [][3]string{
		{"/", "t", "/:a /:t /:temp /a:w /a:x2 /a/b:deep"}, {"/", "x", "/:a /:temp /a_b:v"}, {"/a", "x", "/a:w /a:x /a/b:deep"}, {"/a", "y", "/a:x /a/b:deep"}, {"/a_b", "t", "/a_b:t /a_b:v"}, {"/a_b", "free", ""},
	} {
		l, errno := schema.Users(s, c[0], c[1])
		if joined(l) != c[2] || errno != api.OK {
			t.Errorf("Users(%q, %q): %s, error %d", c[0], c[1], joined(l), errno)
		}
		for _, user := range l {
			if len(user.Index) != 0 {
				t.Errorf("an index: %v", user)
			}
		}
	}
	for _, c := range append([][2]string{{"/a", "t"}, {"/a/b", "x"}, {"/a_b", "x"}, {"/", "y"}, {"/", "temp"}}, nowhere...) {
		if l, errno := schema.Users(s, c[0], c[1]); len(l) != 0 || errno != api.ErrNone {
			t.Errorf("Users(%.20q, %.20q): %s, error %d", c[0], c[1], joined(l), errno)
		}
	}
}

// P3.9

func TestNearestDimension(t *testing.T) {
	paths := []string{"/", "/a", "/a/b", "/a/b/c", "/a/b/c/d"}
	for owners := range 1 << len(paths) {
		var s api.Schema
		for i, path := range paths {
			g := api.Group{Path: path}
			if owners&(1<<i) != 0 {
				g.Dims = []api.Dim{{Name: "t", Size: i}}
			}
			s.Groups = append(s.Groups, g)
		}
		owner := -1
		for i, path := range paths {
			if owners&(1<<i) != 0 {
				owner = i
			}
			got, d, errno := schema.Resolve(s, path, "t")
			if owner < 0 && errno != api.ErrNone || owner >= 0 && (errno != api.OK || got != paths[owner] || d.Size != owner) {
				t.Errorf("Resolve(%q) with the owners %b: %q, %v, error %d", path, owners, got, d, errno)
			}
		}
	}
}

func TestAddedDimensionHasNoUsers(t *testing.T) {
	for _, g := range rich().Groups {
		for _, name := range []string{"q", "a", "zz", "temp", "deep"} {
			s, errno := schema.Apply(rich(), api.Change{Kind: api.AddDim, Path: g.Path, Dim: api.Dim{Name: name, Size: 7}})
			if errno != api.OK {
				t.Fatalf("AddDim of %s to %s: error %d", name, g.Path, errno)
			}
			if l, errno := schema.Users(s, g.Path, name); len(l) != 0 || errno != api.OK {
				t.Errorf("Users of %s in %s: %s, error %d", name, g.Path, joined(l), errno)
			}
			if owner, d, errno := schema.Resolve(s, g.Path, name); owner != g.Path || d != (api.Dim{Name: name, Size: 7}) || errno != api.OK {
				t.Errorf("Resolve of %s in %s: %q, %v, error %d", name, g.Path, owner, d, errno)
			}
		}
	}
}
