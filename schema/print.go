package schema

import (
	"strconv"
	"strings"

	"arrayarchive/api"
)

// typeWords returns the words for the types, each at the place of its type.
func typeWords() []string {
	return []string{api.TypeI8: "i8", api.TypeI16: "i16", api.TypeI32: "i32", api.TypeI64: "i64", api.TypeNum: "num"}
}

// stageWords returns the words for the kinds of stages, each at the place of its kind.
func stageWords() []string {
	return []string{api.StageRound: "round", api.StageDelta: "delta", api.StageShuffle: "shuffle", api.StageDict: "dict", api.StagePack: "pack"}
}

// noFill is the word for a missing Fill.
const noFill = "none"

// Print returns the text of a schema.
func Print(s api.Schema) (string, api.Errno) {
	if !Valid(s) {
		return "", api.ErrSchema
	}
	var p printer
	for _, g := range s.Groups {
		p.group(g)
	}
	return p.text.String(), api.OK
}

// printer forms the text of a valid schema.
type printer struct {
	text strings.Builder
}

func (p *printer) line(words ...string) {
	p.text.WriteString(strings.Join(words, " ") + "\n")
}

func (p *printer) group(g api.Group) {
	p.line("group", g.Path)
	for _, d := range g.Dims {
		if d.Open {
			p.line("dim", d.Name, strconv.Itoa(d.Size), "open")
		} else {
			p.line("dim", d.Name, strconv.Itoa(d.Size))
		}
	}
	p.attrs("attr", g.Attrs)
	for _, v := range g.Vars {
		p.line(varWords(v)...)
		p.attrs("vattr", v.Attrs)
	}
}

func (p *printer) attrs(first string, attrs []api.Attr) {
	for _, a := range attrs {
		words := []string{first, a.Name}
		if a.Kind == api.AttrText {
			words = append(words, quoted(a.Text))
		}
		p.line(append(words, a.Nums...)...)
	}
}

// varWords returns the words of the line of a variable.
func varWords(v api.Var) []string {
	words := []string{"var", v.Name, typeWords()[v.Type], "("}
	words = append(words, v.Dims...)
	words = append(words, ")", "(")
	for _, n := range v.Chunks {
		words = append(words, strconv.Itoa(n))
	}
	fill := v.Fill
	if fill == "" {
		fill = noFill
	}
	words = append(words, ")", fill, quoted(v.Unit))
	for _, s := range v.Stages {
		words = append(words, stageWords()[s.Kind]+"("+strconv.Itoa(s.N)+","+s.Step+")")
	}
	return words
}

// quoted returns a text in quotes.
func quoted(text string) string {
	text = strings.ReplaceAll(text, `\`, `\\`)
	text = strings.ReplaceAll(text, `"`, `\"`)
	return `"` + text + `"`
}
