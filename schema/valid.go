package schema

import (
	"slices"

	"arrayarchive/api"
	"arrayarchive/quantity"
)

const (
	maxAttrText = 200 // bytes of the text of an attribute
	maxN        = 8   // N of a stage
)

// Valid reports whether a schema is valid.
func Valid(s api.Schema) bool {
	hasParent := func(g api.Group) bool {
		parent, ok := Parent(g.Path)
		return g.Path == "/" || ok && get(s.Groups, groupPath, parent) != nil
	}
	if !isList(s.Groups, api.MaxGroups, groupPath, hasParent) || get(s.Groups, groupPath, "/") == nil {
		return false
	}
	return !slices.ContainsFunc(s.Groups, func(g api.Group) bool { return !validGroup(s, g) })
}

// validGroup reports whether what is in a group is valid.
func validGroup(s api.Schema, g api.Group) bool {
	isVar := func(v api.Var) bool {
		shape, ok := shapeOf(s, g.Path, v.Dims)
		return ok && product(shape) <= api.MaxCells && validVar(v)
	}
	return isList(g.Dims, api.MaxDims, dimName, validDim) && validAttrs(g.Attrs) && isList(g.Vars, api.MaxVars, varName, isVar)
}

func validDim(d api.Dim) bool {
	return ValidName(d.Name) && 0 <= d.Size && d.Size <= api.MaxSize
}

// validVar reports whether a variable is valid, if each of its at most MaxRank names of dimensions means one.
func validVar(v api.Var) bool {
	return ValidName(v.Name) && allDifferent(v.Dims) && validChunks(v.Chunks, len(v.Dims)) && quantity.Fits(v.Type, v.Fill) && validUnit(v.Unit) && validStages(v.Stages) && validAttrs(v.Attrs)
}

func allDifferent(names []string) bool {
	for i, name := range names {
		if slices.Contains(names[:i], name) {
			return false
		}
	}
	return true
}

func validChunks(chunks []int, rank int) bool {
	if len(chunks) != rank {
		return false
	}
	for _, n := range chunks {
		if n < 1 || n > api.MaxSize {
			return false
		}
	}
	return product(chunks) <= api.MaxCells
}

func validUnit(unit string) bool {
	if unit == "" {
		return true
	}
	_, errno := quantity.ParseUnit(unit)
	return errno == api.OK
}

func validStages(stages []api.Stage) bool {
	if len(stages) > api.MaxStages {
		return false
	}
	for _, stage := range stages {
		if stage.Kind < api.StageRound || stage.Kind > api.StagePack || stage.N < 0 || stage.N > maxN || !validStep(stage.Step) {
			return false
		}
	}
	return true
}

func validStep(step string) bool {
	sign, ok := quantity.Compare(step, "0")
	return step == "" || ok && sign > 0
}

func validAttrs(attrs []api.Attr) bool {
	return isList(attrs, api.MaxAttrs, attrName, validAttr)
}

func validAttr(a api.Attr) bool {
	switch a.Kind {
	case api.AttrText:
		return ValidName(a.Name) && len(a.Nums) == 0 && validText(a.Text)
	case api.AttrNums:
		return ValidName(a.Name) && a.Text == "" && validNums(a.Nums)
	}
	return false
}

func validText(text string) bool {
	if len(text) > maxAttrText {
		return false
	}
	for i := range len(text) {
		if text[i] < 32 || text[i] > 126 {
			return false
		}
	}
	return true
}

func validNums(nums []string) bool {
	if len(nums) < 1 || len(nums) > api.MaxNums {
		return false
	}
	return !slices.ContainsFunc(nums, func(x string) bool { return !quantity.Valid(x) })
}
