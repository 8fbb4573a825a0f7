package schema

import (
	"slices"

	"arrayarchive/api"
)

// Apply returns the schema with one change.
func Apply(s api.Schema, c api.Change) (api.Schema, api.Errno) {
	if !Valid(s) {
		return api.Schema{}, api.ErrSchema
	}
	change, ok := kinds()[c.Kind]
	if !ok {
		return api.Schema{}, api.ErrSchema
	}
	e := edit{schema: copySchema(s), Change: c}
	if errno := change(&e); errno != api.OK {
		return api.Schema{}, errno
	}
	if e.exceeds() {
		return api.Schema{}, api.ErrLimit
	}
	if !Valid(e.schema) {
		return api.Schema{}, api.ErrSchema
	}
	return e.schema, api.OK
}

// edit is a change that is carried out on a schema of its own. What it leaves behind an error is not used.
type edit struct {
	schema api.Schema
	api.Change
}

// kinds returns what carries out each kind of change. It finds the errors but those of limits and of what is added, which show in the result.
func kinds() map[int]func(*edit) api.Errno {
	return map[int]func(*edit) api.Errno{
		api.AddGroup:  (*edit).addGroup,
		api.DropGroup: (*edit).dropGroup,
		api.AddDim:    (*edit).addDim,
		api.DropDim:   (*edit).dropDim,
		api.NameDim:   (*edit).nameDim,
		api.Grow:      (*edit).grow,
		api.AddVar:    (*edit).addVar,
		api.DropVar:   (*edit).dropVar,
		api.NameVar:   (*edit).nameVar,
		api.SetAttr:   (*edit).setAttr,
		api.DropAttr:  (*edit).dropAttr,
	}
}

// exceeds reports whether the changed schema is beyond a limit that counts as ErrLimit.
func (e *edit) exceeds() bool {
	return len(e.schema.Groups) > api.MaxGroups || slices.ContainsFunc(e.schema.Groups, e.groupExceeds)
}

func (e *edit) groupExceeds(g api.Group) bool {
	if len(g.Dims) > api.MaxDims || len(g.Vars) > api.MaxVars || len(g.Attrs) > api.MaxAttrs {
		return true
	}
	if slices.ContainsFunc(g.Dims, func(d api.Dim) bool { return d.Size > api.MaxSize }) {
		return true
	}
	return slices.ContainsFunc(g.Vars, func(v api.Var) bool {
		shape, ok := shapeOf(e.schema, g.Path, v.Dims)
		// A variable that is added with too many attributes is not valid, but beyond no limit.
		return ok && product(shape) > api.MaxCells || e.Kind == api.SetAttr && len(v.Attrs) > api.MaxAttrs
	})
}

// group returns the group of the change, or nil.
func (e *edit) group() *api.Group {
	return get(e.schema.Groups, groupPath, e.Path)
}

// dimension returns the group of the change and its dimension of the name of the change, or nil.
func (e *edit) dimension() (*api.Group, *api.Dim) {
	g := e.group()
	if g == nil {
		return nil, nil
	}
	return g, get(g.Dims, dimName, e.Name)
}

// isNamed reports whether a variable of the group of the change, or of one below it, has a name in its Dims.
func (e *edit) isNamed(dim string) bool {
	return slices.ContainsFunc(e.schema.Groups, func(g api.Group) bool {
		return isWithin(g.Path, e.Path) && slices.ContainsFunc(g.Vars, func(v api.Var) bool { return slices.Contains(v.Dims, dim) })
	})
}

func (e *edit) addGroup() api.Errno {
	if !ValidPath(e.Path) {
		return api.ErrName
	}
	// A group that is there has its parent, but for `/`, which has none: so ErrExists may be looked for before ErrNone.
	if e.group() != nil {
		return api.ErrExists
	}
	if above(e.schema, e.Path) == nil {
		return api.ErrNone
	}
	e.schema.Groups = put(e.schema.Groups, groupPath, api.Group{Path: e.Path})
	return api.OK
}

func (e *edit) dropGroup() api.Errno {
	if !ValidPath(e.Path) || e.Path == "/" {
		return api.ErrName
	}
	g := e.group()
	if g == nil {
		return api.ErrNone
	}
	hasBelow := slices.ContainsFunc(e.schema.Groups, func(other api.Group) bool { return isBelow(other.Path, e.Path) })
	if hasBelow || len(g.Vars) > 0 {
		return api.ErrUsed
	}
	e.schema.Groups = drop(e.schema.Groups, groupPath, e.Path)
	return api.OK
}

func (e *edit) addDim() api.Errno {
	if !ValidName(e.Dim.Name) {
		return api.ErrName
	}
	g := e.group()
	if g == nil {
		return api.ErrNone
	}
	if get(g.Dims, dimName, e.Dim.Name) != nil {
		return api.ErrExists
	}
	if e.isNamed(e.Dim.Name) {
		return api.ErrUsed
	}
	g.Dims = put(g.Dims, dimName, e.Dim)
	return api.OK
}

func (e *edit) dropDim() api.Errno {
	g, d := e.dimension()
	if d == nil {
		return api.ErrNone
	}
	if len(users(e.schema, e.Path, e.Name)) > 0 {
		return api.ErrUsed
	}
	g.Dims = drop(g.Dims, dimName, e.Name)
	return api.OK
}

func (e *edit) nameDim() api.Errno {
	if !ValidName(e.New) {
		return api.ErrName
	}
	g, d := e.dimension()
	if d == nil {
		return api.ErrNone
	}
	if get(g.Dims, dimName, e.New) != nil {
		return api.ErrExists
	}
	list := users(e.schema, e.Path, e.Name)
	if e.isNamed(e.New) || slices.ContainsFunc(list, e.isHidden) {
		return api.ErrUsed
	}
	for _, u := range list {
		v := variable(e.schema, u.Path, u.Name)
		v.Dims[slices.Index(v.Dims, e.Name)] = e.New
	}
	renamed := api.Dim{Name: e.New, Size: d.Size, Open: d.Open}
	g.Dims = put(drop(g.Dims, dimName, e.Name), dimName, renamed)
	return api.OK
}

// isHidden reports whether the dimension of the change would not be seen by a user of it under its new name.
func (e *edit) isHidden(user api.Chunk) bool {
	owner, _, ok := meaning(e.schema, user.Path, e.New)
	return ok && isBelow(owner, e.Path)
}

func (e *edit) grow() api.Errno {
	_, d := e.dimension()
	if d == nil {
		return api.ErrNone
	}
	if !d.Open {
		return api.ErrFixed
	}
	if e.Size < 0 || e.Size > api.MaxSize-d.Size {
		return api.ErrLimit
	}
	d.Size += e.Size
	return api.OK
}

func (e *edit) addVar() api.Errno {
	if !ValidName(e.Var.Name) {
		return api.ErrName
	}
	g := e.group()
	if g == nil {
		return api.ErrNone
	}
	if get(g.Vars, varName, e.Var.Name) != nil {
		return api.ErrExists
	}
	g.Vars = put(g.Vars, varName, copyVar(e.Var))
	return api.OK
}

func (e *edit) dropVar() api.Errno {
	if variable(e.schema, e.Path, e.Name) == nil {
		return api.ErrNone
	}
	g := e.group()
	g.Vars = drop(g.Vars, varName, e.Name)
	return api.OK
}

func (e *edit) nameVar() api.Errno {
	if !ValidName(e.New) {
		return api.ErrName
	}
	v := variable(e.schema, e.Path, e.Name)
	if v == nil {
		return api.ErrNone
	}
	if variable(e.schema, e.Path, e.New) != nil {
		return api.ErrExists
	}
	renamed := *v
	renamed.Name = e.New
	g := e.group()
	g.Vars = put(drop(g.Vars, varName, e.Name), varName, renamed)
	return api.OK
}

// attrs returns the list of attributes of the variable of the change, or of its group if it names none, or nil.
func (e *edit) attrs() *[]api.Attr {
	if e.Name != "" {
		v := variable(e.schema, e.Path, e.Name)
		if v == nil {
			return nil
		}
		return &v.Attrs
	}
	g := e.group()
	if g == nil {
		return nil
	}
	return &g.Attrs
}

func (e *edit) setAttr() api.Errno {
	if !ValidName(e.Attr.Name) {
		return api.ErrName
	}
	list := e.attrs()
	if list == nil {
		return api.ErrNone
	}
	*list = put(*list, attrName, copyAttr(e.Attr))
	return api.OK
}

func (e *edit) dropAttr() api.Errno {
	list := e.attrs()
	if list == nil || get(*list, attrName, e.New) == nil {
		return api.ErrNone
	}
	*list = drop(*list, attrName, e.New)
	return api.OK
}
