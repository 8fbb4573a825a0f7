package schema_test

import (
	"bytes"
	"math"
	"math/rand/v2"
	"slices"
	"strings"
	"testing"

	"arrayarchive/api"
	"arrayarchive/schema"
)

var (
	somePaths  = []string{"/", "/a", "/a/b", "/a/b/c", "/a/b/c/d", "/a/d", "/a0", "/a0/x", "/b", "/z_"}
	otherPaths = []string{"", "a", "/A", "/a/", "/a/b/c/d/e", "/q/r"}
	someDims   = []string{"t", "u", "x", "y"}
	someVars   = []string{"a", "t", "v", "w", "x"}
	someNames  = []string{"a", "t", "u", "v", "x", "y"}
	otherNames = []string{"", "A", "a b", "q", "temperature_of_it"}
	someUnits  = []string{"", "", "K", "1", "m s^-2", "degC"}
	someNums   = []string{"0", "-1", "1/2", "200", "-7/3"}
)

func newRandom() *rand.Rand {
	return rand.New(rand.NewPCG(3, 33))
}

func pick[T any](r *rand.Rand, l []T) T {
	return l[r.IntN(len(l))]
}

// some returns some items of a list, in its order.
func some(r *rand.Rand, l []string, most int) []string {
	l = slices.Clone(l)
	for len(l) > 0 && (len(l) > most || r.IntN(3) > 0) {
		i := r.IntN(len(l))
		l = slices.Delete(l, i, i+1)
	}
	return l
}

// sample returns a valid schema.
func sample(r *rand.Rand) api.Schema {
	var s api.Schema
	for _, path := range somePaths {
		if path != "/" && (r.IntN(3) == 0 || place(s, upwards(path)) < 0) {
			continue
		}
		s.Groups = append(s.Groups, api.Group{Path: path})
		g := &s.Groups[len(s.Groups)-1]
		for _, name := range some(r, someDims, 4) {
			g.Dims = append(g.Dims, api.Dim{Name: name, Size: pick(r, []int{0, 1, 2, 3, 7, 60, 1000}), Open: r.IntN(2) == 0})
		}
		g.Attrs = sampleAttrs(r)
		for _, name := range some(r, someVars, 5) {
			v := sampleVar(r, name)
			if size(s, path, v.Dims) <= 4096 {
				g.Vars = append(g.Vars, v)
			}
		}
	}
	return s
}

func sampleAttrs(r *rand.Rand) []api.Attr {
	var l []api.Attr
	for _, name := range some(r, someNames, 6) {
		l = append(l, sampleAttr(r, name))
	}
	return l
}

func sampleAttr(r *rand.Rand, name string) api.Attr {
	if r.IntN(2) == 0 {
		text := make([]byte, r.IntN(12))
		for i := range text {
			text[i] = pick(r, []byte(` "\a~)(`))
		}
		return api.Attr{Name: name, Kind: api.AttrText, Text: string(text)}
	}
	nums := []string{pick(r, someNums)}
	for r.IntN(2) == 0 && len(nums) < 32 {
		nums = append(nums, pick(r, someNums))
	}
	return api.Attr{Name: name, Kind: api.AttrNums, Nums: nums}
}

// sampleVar returns a variable that is valid, if its dimensions mean something and are not too long.
func sampleVar(r *rand.Rand, name string) api.Var {
	v := api.Var{Name: name, Type: 1 + r.IntN(5), Fill: pick(r, []string{"", "0", "-1", "127"}), Unit: pick(r, someUnits), Attrs: sampleAttrs(r)}
	v.Dims = some(r, someDims, 4)
	r.Shuffle(len(v.Dims), func(i, j int) { v.Dims[i], v.Dims[j] = v.Dims[j], v.Dims[i] })
	for range v.Dims {
		v.Chunks = append(v.Chunks, 1+r.IntN(8))
	}
	for r.IntN(3) == 0 && len(v.Stages) < 4 {
		v.Stages = append(v.Stages, api.Stage{Kind: 1 + r.IntN(5), N: r.IntN(9), Step: pick(r, []string{"", "5", "1/2"})})
	}
	return v
}

// What follows is the chapter once more, by plain search, for comparison with the results of the package.

func upwards(path string) string {
	at := strings.LastIndex(path, "/")
	return path[:max(at, 1)]
}

func place(s api.Schema, path string) int {
	return slices.IndexFunc(s.Groups, func(g api.Group) bool { return g.Path == path })
}

func dimAt(g api.Group, name string) int {
	return slices.IndexFunc(g.Dims, func(d api.Dim) bool { return d.Name == name })
}

func varAt(g api.Group, name string) int {
	return slices.IndexFunc(g.Vars, func(v api.Var) bool { return v.Name == name })
}

func attrAt(l []api.Attr, name string) int {
	return slices.IndexFunc(l, func(a api.Attr) bool { return a.Name == name })
}

// owner returns the path of the group whose dimension a name means, and its size.
func owner(s api.Schema, path, name string) (string, int) {
	for {
		g := s.Groups[place(s, path)]
		if i := dimAt(g, name); i >= 0 {
			return path, g.Dims[i].Size
		}
		if path == "/" {
			return "", 0
		}
		path = upwards(path)
	}
}

// size returns the number of elements over dimensions, or more than any array has if one means nothing.
func size(s api.Schema, path string, dims []string) int {
	p := 1
	for _, name := range dims {
		group, n := owner(s, path, name)
		if group == "" {
			return 1 << 40
		}
		p *= n
	}
	return p
}

// usersOf returns the users of a dimension.
func usersOf(s api.Schema, path, name string) []api.Chunk {
	var l []api.Chunk
	for _, g := range s.Groups {
		for _, v := range g.Vars {
			if group, _ := owner(s, g.Path, name); slices.Contains(v.Dims, name) && group == path {
				l = append(l, api.Chunk{Path: g.Path, Name: v.Name})
			}
		}
	}
	return l
}

// isAtOrBelow reports whether one group is another one or below it.
func isAtOrBelow(path, group string) bool {
	for path != group && path != "/" {
		path = upwards(path)
	}
	return path == group
}

// isNamedBelow reports whether a variable of a group, or of one below it, has a name in Dims.
func isNamedBelow(s api.Schema, path, name string) bool {
	for _, g := range s.Groups {
		for _, v := range g.Vars {
			if isAtOrBelow(g.Path, path) && slices.Contains(v.Dims, name) {
				return true
			}
		}
	}
	return false
}

func sortAll(s *api.Schema) {
	slices.SortFunc(s.Groups, func(a, b api.Group) int { return strings.Compare(a.Path, b.Path) })
	for _, g := range s.Groups {
		slices.SortFunc(g.Dims, func(a, b api.Dim) int { return strings.Compare(a.Name, b.Name) })
		slices.SortFunc(g.Vars, func(a, b api.Var) int { return strings.Compare(a.Name, b.Name) })
		slices.SortFunc(g.Attrs, func(a, b api.Attr) int { return strings.Compare(a.Name, b.Name) })
		for _, v := range g.Vars {
			slices.SortFunc(v.Attrs, func(a, b api.Attr) int { return strings.Compare(a.Name, b.Name) })
		}
	}
}

// wanted returns what Apply has to return. It may change s.
func wanted(s api.Schema, c api.Change) (api.Schema, api.Errno) {
	errno := api.ErrSchema
	switch c.Kind {
	case api.AddGroup, api.DropGroup:
		errno = wantedGroup(&s, c)
	case api.AddDim, api.DropDim, api.NameDim, api.Grow:
		errno = wantedDim(&s, c)
	case api.AddVar, api.DropVar, api.NameVar:
		errno = wantedVar(&s, c)
	case api.SetAttr, api.DropAttr:
		errno = wantedAttr(&s, c)
	}
	if errno != api.OK {
		return api.Schema{}, errno
	}
	sortAll(&s)
	for _, g := range s.Groups {
		for _, v := range g.Vars {
			if n := size(s, g.Path, v.Dims); n > 4096 && n < 1<<40 {
				return api.Schema{}, api.ErrLimit
			}
		}
	}
	if !schema.Valid(s) {
		return api.Schema{}, api.ErrSchema
	}
	return s, api.OK
}

func wantedGroup(s *api.Schema, c api.Change) api.Errno {
	at := place(*s, c.Path)
	switch {
	case !schema.ValidPath(c.Path) || c.Kind == api.DropGroup && c.Path == "/":
		return api.ErrName
	case c.Kind == api.AddGroup && place(*s, upwards(c.Path)) < 0 || c.Kind == api.DropGroup && at < 0:
		return api.ErrNone
	case c.Kind == api.AddGroup && at >= 0:
		return api.ErrExists
	case c.Kind == api.AddGroup:
		s.Groups = append(s.Groups, api.Group{Path: c.Path})
		return api.OK
	}
	for _, g := range s.Groups {
		if g.Path == c.Path && len(g.Vars) > 0 || g.Path != c.Path && isAtOrBelow(g.Path, c.Path) {
			return api.ErrUsed
		}
	}
	s.Groups = slices.Delete(s.Groups, at, at+1)
	return api.OK
}

func wantedDim(s *api.Schema, c api.Change) api.Errno {
	if c.Kind == api.AddDim && !schema.ValidName(c.Dim.Name) || c.Kind == api.NameDim && !schema.ValidName(c.New) {
		return api.ErrName
	}
	if place(*s, c.Path) < 0 {
		return api.ErrNone
	}
	g := &s.Groups[place(*s, c.Path)]
	at := dimAt(*g, c.Name)
	if c.Kind != api.AddDim && at < 0 {
		return api.ErrNone
	}
	switch c.Kind {
	case api.AddDim:
		switch {
		case dimAt(*g, c.Dim.Name) >= 0:
			return api.ErrExists
		case isNamedBelow(*s, c.Path, c.Dim.Name):
			return api.ErrUsed
		case c.Dim.Size > 1024:
			return api.ErrLimit
		}
		g.Dims = append(g.Dims, c.Dim)
	case api.DropDim:
		if len(usersOf(*s, c.Path, c.Name)) > 0 {
			return api.ErrUsed
		}
		g.Dims = slices.Delete(g.Dims, at, at+1)
	case api.NameDim:
		return wantedName(s, c)
	case api.Grow:
		if !g.Dims[at].Open {
			return api.ErrFixed
		}
		if c.Size < 0 || c.Size > 1024 || g.Dims[at].Size+c.Size > 1024 {
			return api.ErrLimit
		}
		g.Dims[at].Size += c.Size
	}
	return api.OK
}

func wantedName(s *api.Schema, c api.Change) api.Errno {
	g := &s.Groups[place(*s, c.Path)]
	users := usersOf(*s, c.Path, c.Name)
	if dimAt(*g, c.New) >= 0 {
		return api.ErrExists
	}
	if isNamedBelow(*s, c.Path, c.New) {
		return api.ErrUsed
	}
	for _, u := range users {
		for path := u.Path; path != c.Path; path = upwards(path) {
			if dimAt(s.Groups[place(*s, path)], c.New) >= 0 {
				return api.ErrUsed
			}
		}
	}
	g.Dims[dimAt(*g, c.Name)].Name = c.New
	for _, u := range users {
		group := s.Groups[place(*s, u.Path)]
		dims := group.Vars[varAt(group, u.Name)].Dims
		dims[slices.Index(dims, c.Name)] = c.New
	}
	return api.OK
}

func wantedVar(s *api.Schema, c api.Change) api.Errno {
	if c.Kind == api.AddVar && !schema.ValidName(c.Var.Name) || c.Kind == api.NameVar && !schema.ValidName(c.New) {
		return api.ErrName
	}
	if place(*s, c.Path) < 0 {
		return api.ErrNone
	}
	g := &s.Groups[place(*s, c.Path)]
	at := varAt(*g, c.Name)
	switch {
	case c.Kind != api.AddVar && at < 0:
		return api.ErrNone
	case c.Kind == api.AddVar && varAt(*g, c.Var.Name) >= 0, c.Kind == api.NameVar && varAt(*g, c.New) >= 0:
		return api.ErrExists
	case c.Kind == api.AddVar:
		g.Vars = append(g.Vars, c.Var)
	case c.Kind == api.NameVar:
		g.Vars[at].Name = c.New
	default:
		g.Vars = slices.Delete(g.Vars, at, at+1)
	}
	return api.OK
}

func wantedAttr(s *api.Schema, c api.Change) api.Errno {
	if c.Kind == api.SetAttr && !schema.ValidName(c.Attr.Name) {
		return api.ErrName
	}
	if place(*s, c.Path) < 0 {
		return api.ErrNone
	}
	g := &s.Groups[place(*s, c.Path)]
	l := &g.Attrs
	if c.Name != "" {
		if varAt(*g, c.Name) < 0 {
			return api.ErrNone
		}
		l = &g.Vars[varAt(*g, c.Name)].Attrs
	}
	name := c.New
	if c.Kind == api.SetAttr {
		name = c.Attr.Name
	}
	at := attrAt(*l, name)
	switch {
	case c.Kind == api.DropAttr && at < 0:
		return api.ErrNone
	case c.Kind == api.DropAttr:
		*l = slices.Delete(*l, at, at+1)
	case at >= 0:
		(*l)[at] = c.Attr
	default:
		*l = append(*l, c.Attr)
	}
	return api.OK
}

// mostly returns an item of the first list, seldom one of the other.
func mostly(r *rand.Rand, l, other []string) string {
	if r.IntN(12) == 0 {
		return pick(r, other)
	}
	return pick(r, l)
}

func sampleChange(r *rand.Rand) api.Change {
	c := api.Change{Kind: r.IntN(13), Path: mostly(r, somePaths, otherPaths), Name: mostly(r, someNames, otherNames), New: mostly(r, someNames, otherNames), Size: pick(r, []int{-1, 0, 1, 2, 10, 30, 500, 1024, math.MaxInt, math.MinInt})}
	c.Dim = api.Dim{Name: mostly(r, someDims, otherNames), Size: pick(r, []int{0, 1, 3, 1024, 1025, -1, math.MaxInt}), Open: r.IntN(2) == 0}
	c.Var = sampleVar(r, mostly(r, someVars, otherNames))
	c.Attr = sampleAttr(r, mostly(r, someNames, otherNames))
	if r.IntN(4) == 0 {
		c.Name, c.Attr.Kind, c.Var.Type = "", pick(r, []int{0, 1, 2, 3}), pick(r, []int{0, 1, 5, 6})
	}
	return c
}

// P3.4 and P3.8

func TestApplyAtRandom(t *testing.T) {
	r := newRandom()
	seen := map[int]map[api.Errno]int{}
	for range 1500 {
		s := sample(r)
		before, _ := schema.Print(s)
		for range 12 {
			c := sampleChange(r)
			got, errno := schema.Apply(s, c)
			other, f := schema.Parse(before)
			if f != api.OK || !schema.Equal(s, other) {
				t.Fatalf("%v changes its argument:\n%s\n%v", c, before, s)
			}
			want, e := wanted(other, c)
			if errno != e || !schema.Equal(got, want) || errno == api.OK && !schema.Valid(got) {
				t.Fatalf("%v: error %d, want %d, of\n%s\n%v\n%v", c, errno, e, before, got, want)
			}
			if seen[c.Kind] == nil {
				seen[c.Kind] = map[api.Errno]int{}
			}
			seen[c.Kind][errno]++
		}
	}
	for kind, l := range map[int][]api.Errno{
		api.AddGroup: {api.OK, api.ErrName, api.ErrNone, api.ErrExists}, api.DropGroup: {api.OK, api.ErrName, api.ErrNone, api.ErrUsed},
		api.AddDim: {api.OK, api.ErrName, api.ErrNone, api.ErrExists, api.ErrUsed, api.ErrLimit, api.ErrSchema}, api.DropDim: {api.OK, api.ErrNone, api.ErrUsed}, api.NameDim: {api.OK, api.ErrName, api.ErrNone, api.ErrExists, api.ErrUsed}, api.Grow: {api.OK, api.ErrNone, api.ErrFixed, api.ErrLimit},
		api.AddVar: {api.OK, api.ErrName, api.ErrNone, api.ErrExists, api.ErrLimit, api.ErrSchema}, api.DropVar: {api.OK, api.ErrNone}, api.NameVar: {api.OK, api.ErrName, api.ErrNone, api.ErrExists}, api.SetAttr: {api.OK, api.ErrName, api.ErrNone, api.ErrSchema}, api.DropAttr: {api.OK, api.ErrNone},
	} {
		for _, errno := range l {
			if seen[kind][errno] == 0 {
				t.Errorf("kind %d: the error %d was never seen", kind, errno)
			}
		}
	}
}

// back returns the change that undoes another one of a kind that adds or names something.
func back(c api.Change) (api.Change, bool) {
	u := api.Change{Path: c.Path}
	switch c.Kind {
	case api.AddGroup:
		u.Kind = api.DropGroup
	case api.AddDim:
		u.Kind, u.Name = api.DropDim, c.Dim.Name
	case api.AddVar:
		u.Kind, u.Name = api.DropVar, c.Var.Name
	case api.SetAttr:
		u.Kind, u.Name, u.New = api.DropAttr, c.Name, c.Attr.Name
	case api.NameDim, api.NameVar:
		u.Kind, u.Name, u.New = c.Kind, c.New, c.Name
	default:
		return u, false
	}
	return u, true
}

func TestThereAndBack(t *testing.T) {
	r := newRandom()
	done := map[int]int{}
	for range 2000 {
		s := sample(r)
		for range 8 {
			c := sampleChange(r)
			u, ok := back(c)
			next, errno := schema.Apply(s, c)
			if !ok || errno != api.OK {
				continue
			}
			if _, e := schema.Apply(s, u); c.Kind == api.SetAttr && e == api.OK {
				continue // the attribute was there before
			}
			last, errno := schema.Apply(next, u)
			if errno != api.OK && c.Kind != api.NameDim || errno == api.OK && !schema.Equal(last, s) {
				t.Fatalf("%v and back: error %d, %v of %v", c, errno, last, s)
			}
			if errno == api.OK {
				done[c.Kind]++
			}
		}
	}
	for _, kind := range []int{api.AddGroup, api.AddDim, api.AddVar, api.SetAttr, api.NameDim, api.NameVar} {
		if done[kind] < 20 {
			t.Errorf("kind %d: only %d times there and back", kind, done[kind])
		}
	}
}

func TestNameDimKeepsShapes(t *testing.T) {
	r := newRandom()
	done := 0
	for done < 300 {
		s, c := sample(r), sampleChange(r)
		c.Kind = api.NameDim
		next, errno := schema.Apply(s, c)
		if errno != api.OK {
			continue
		}
		done++
		for _, g := range s.Groups {
			for _, v := range g.Vars {
				before, e := schema.Shape(s, g.Path, v.Name)
				after, f := schema.Shape(next, g.Path, v.Name)
				if e != api.OK || f != api.OK || !slices.Equal(before, after) {
					t.Fatalf("%v makes %v of the shape %v of %s in %s", c, after, before, v.Name, g.Path)
				}
			}
		}
	}
}

// P3.3 and P3.9

func TestFindsAtRandom(t *testing.T) {
	r := newRandom()
	for range 200 {
		s := sample(r)
		if !schema.Valid(s) {
			t.Fatalf("not valid: %v", s)
		}
		for _, g := range s.Groups {
			for _, name := range someDims {
				group, n := owner(s, g.Path, name)
				path, d, errno := schema.Resolve(s, g.Path, name)
				if path != group || d.Size != n || (errno == api.OK) != (group != "") {
					t.Fatalf("Resolve(%q, %q): %q, %v, error %d, of %v", g.Path, name, path, d, errno, s)
				}
				l, errno := schema.Users(s, g.Path, name)
				if group == g.Path && (errno != api.OK || joined(l) != joined(usersOf(s, g.Path, name))) || group != g.Path && errno != api.ErrNone {
					t.Fatalf("Users(%q, %q): %s, error %d, of %v", g.Path, name, joined(l), errno, s)
				}
			}
			for _, v := range g.Vars {
				shape, errno := schema.Shape(s, g.Path, v.Name)
				for i, name := range v.Dims {
					if _, n := owner(s, g.Path, name); errno != api.OK || len(shape) != len(v.Dims) || shape[i] != n {
						t.Fatalf("Shape(%q, %q): %v, error %d, of %v", g.Path, v.Name, shape, errno, s)
					}
				}
			}
		}
	}
}

// P3.7

func TestFormsAtRandom(t *testing.T) {
	r := newRandom()
	plain := 0
	for range 1000 {
		s := sample(r)
		text, e := schema.Print(s)
		parsed, f := schema.Parse(text)
		if e != api.OK || f != api.OK || !schema.Equal(parsed, s) {
			t.Fatalf("Parse of Print: errors %d, %d, of\n%s", e, f, text)
		}
		for version := 1; version <= 2; version++ {
			b, e := schema.Encode(s, version)
			if version == 1 && e == api.ErrVersion {
				continue
			}
			plain += 2 - version
			decoded, v, f := schema.Decode(b)
			if e != api.OK || f != api.OK || v != version || !schema.Equal(decoded, s) {
				t.Fatalf("Decode of Encode: errors %d, %d, version %d of %d, of\n%s", e, f, v, version, text)
			}
		}
	}
	if plain < 20 {
		t.Errorf("only %d schemas have an encoding in version 1", plain)
	}
}

// spoiled returns bytes with a few of them changed, left out or put in.
func spoiled(r *rand.Rand, b, pool []byte) []byte {
	b = slices.Clone(b)
	for range 1 + r.IntN(2) {
		at := r.IntN(len(b))
		switch r.IntN(4) {
		case 0:
			b[at] = pick(r, pool)
		case 1:
			b = slices.Delete(b, at, at+1)
		case 2:
			b = slices.Insert(b, at, pick(r, pool))
		case 3:
			b[at] ^= 1 << r.IntN(8)
		}
	}
	return b
}

func TestSpoiledForms(t *testing.T) {
	r := newRandom()
	parsed, decoded := 0, 0
	right, _ := schema.Encode(rich(), 2)
	for range 30000 {
		text := string(spoiled(r, []byte(richText), []byte("\n \"\\(),0123atx/")))
		if checkText(t, text) {
			parsed++
		}
		b := spoiled(r, right, []byte{0, 1, 2, 3, 0x7F, 0x80, 0x81, 'a', 'x'})
		if s, version, errno := schema.Decode(b); errno == api.OK {
			decoded++
			if again, e := schema.Encode(s, version); !bytes.Equal(again, b) || e != api.OK {
				t.Fatalf("Encode of Decode: error %d, %q", e, b)
			}
		} else if errno != api.ErrBytes || version != 0 || !isEmpty(s) {
			t.Fatalf("Decode: error %d of %q", errno, b)
		}
	}
	if parsed < 100 || decoded < 100 {
		t.Errorf("only %d texts and %d encodings are left whole", parsed, decoded)
	}
}
