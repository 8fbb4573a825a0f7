package schema

import (
	"slices"
	"strconv"
	"strings"

	"arrayarchive/api"
)

// What a text of a schema has at most. It keeps the reading of other texts short.
const (
	maxLines = api.MaxGroups * (1 + api.MaxDims + api.MaxAttrs + api.MaxVars*(1+api.MaxAttrs))
	maxWords = 2 + api.MaxNums // in a line; one of an attribute has the most
)

// Parse returns the schema whose text this is.
func Parse(text string) (api.Schema, api.Errno) {
	if strings.Count(text, "\n") > maxLines {
		return api.Schema{}, api.ErrSyntax
	}
	// A text of a schema is read as this schema, any other one as anything: only the former is what Print returns for it.
	s := readText(text)
	back, errno := Print(s)
	if errno != api.OK || back != text {
		return api.Schema{}, api.ErrSyntax
	}
	return s, api.OK
}

func readText(text string) api.Schema {
	var s api.Schema
	for _, line := range strings.Split(text, "\n") {
		w := words{split(line)}
		first := w.next()
		if first == "group" {
			s.Groups = append(s.Groups, api.Group{Path: w.next()})
		} else if len(s.Groups) > 0 {
			readMember(&s.Groups[len(s.Groups)-1], first, w)
		}
	}
	return s
}

// readMember reads the line of something in a group, behind its first word.
func readMember(g *api.Group, first string, w words) {
	switch first {
	case "dim":
		g.Dims = append(g.Dims, w.dim())
	case "attr":
		g.Attrs = append(g.Attrs, w.attr())
	case "var":
		g.Vars = append(g.Vars, w.variable())
	case "vattr":
		if len(g.Vars) > 0 {
			v := &g.Vars[len(g.Vars)-1]
			v.Attrs = append(v.Attrs, w.attr())
		}
	}
}

// split returns the words of a line; a text in quotes is one word, and so is all that is behind too many words.
func split(line string) []string {
	var list []string
	start, inQuotes := 0, false
	for i := 0; i < len(line) && len(list) < maxWords-1; i++ {
		switch {
		case line[i] == '\\' && inQuotes:
			i++
		case line[i] == '"':
			inQuotes = !inQuotes
		case line[i] == ' ' && !inQuotes:
			list = append(list, line[start:i])
			start = i + 1
		}
	}
	return append(list, line[start:])
}

// words are the words of a line that are not read yet. Behind the last one there are only empty words.
type words struct {
	list []string
}

func (w *words) next() string {
	if len(w.list) == 0 {
		return ""
	}
	word := w.list[0]
	w.list = w.list[1:]
	return word
}

// enclosed returns the words between the next one, a `(`, and a `)`.
func (w *words) enclosed() []string {
	w.next()
	var list []string
	for len(w.list) > 0 {
		word := w.next()
		if word == ")" {
			break
		}
		list = append(list, word)
	}
	return list
}

func (w *words) dim() api.Dim {
	var d api.Dim
	d.Name = w.next()
	d.Size = number(w.next())
	d.Open = w.next() == "open"
	return d
}

func (w *words) attr() api.Attr {
	a := api.Attr{Name: w.next(), Kind: api.AttrNums}
	if len(w.list) > 0 && strings.HasPrefix(w.list[0], `"`) {
		a.Kind, a.Text = api.AttrText, unquoted(w.next())
	}
	a.Nums = w.list
	return a
}

func (w *words) variable() api.Var {
	var v api.Var
	v.Name = w.next()
	v.Type = slices.Index(typeWords(), w.next())
	v.Dims = w.enclosed()
	for _, word := range w.enclosed() {
		v.Chunks = append(v.Chunks, number(word))
	}
	v.Fill = w.next()
	if v.Fill == noFill {
		v.Fill = ""
	}
	v.Unit = unquoted(w.next())
	for _, word := range w.list {
		v.Stages = append(v.Stages, stage(word))
	}
	return v
}

// stage returns the stage of a word like `round(0,5)`.
func stage(word string) api.Stage {
	kind, arguments, _ := strings.Cut(word, "(")
	n, step, _ := strings.Cut(strings.TrimSuffix(arguments, ")"), ",")
	return api.Stage{Kind: slices.Index(stageWords(), kind), N: number(n), Step: step}
}

// number returns the number of a word, or 0.
func number(word string) int {
	n, err := strconv.Atoi(word)
	if err != nil {
		return 0
	}
	return n
}

// unquoted returns the text that a word has in quotes.
func unquoted(word string) string {
	word = strings.TrimSuffix(strings.TrimPrefix(word, `"`), `"`)
	var text []byte
	for i := 0; i < len(word); i++ {
		if word[i] == '\\' && i+1 < len(word) {
			i++
		}
		text = append(text, word[i])
	}
	return string(text)
}
