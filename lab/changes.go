package lab

import "arrayarchive/api"

// The functions below read the words of commands that stand for changes of the schema.

func (w *words) group() api.Change {
	return api.Change{Kind: api.AddGroup, Path: w.path()}
}

func (w *words) dim() api.Change {
	c := api.Change{Kind: api.AddDim, Path: w.path()}
	c.Dim.Name = w.word()
	c.Dim.Size = w.number(w.word())
	if w.more {
		c.Dim.Open = true
		w.require(w.word() == "open")
	}
	return c
}

func (w *words) grow() api.Change {
	c := api.Change{Kind: api.Grow, Path: w.path()}
	c.Name = w.word()
	c.Size = w.number(w.word())
	return c
}

func (w *words) drop() api.Change {
	c := api.Change{Kind: api.DropVar, Path: w.path()}
	c.Name = w.word()
	return c
}

func (w *words) name() api.Change {
	c := api.Change{Kind: api.NameVar, Path: w.path()}
	c.Name = w.word()
	c.New = w.word()
	return c
}

func (w *words) attr() api.Change {
	c := api.Change{Kind: api.SetAttr, Path: w.path()}
	c.Name = w.word()
	c.Attr.Name = w.word()
	c.Attr.Kind = api.AttrText
	c.Attr.Text = w.tail()
	return c
}
