package lab

import (
	"slices"
	"strconv"

	"arrayarchive/api"
	"arrayarchive/store"
)

// Play carries out the lines of a script with a lab on a new disk, and returns the answers.
func Play(blocks int, lines []string) ([]string, api.Errno) {
	d, errno := store.NewDisk(blocks)
	if errno != api.OK {
		return nil, errno
	}
	l, errno := Create(d)
	if errno != api.OK {
		return nil, errno
	}
	isLong := func(line string) bool { return len(line) > api.MaxText }
	if len(lines) > api.MaxLines || slices.ContainsFunc(lines, isLong) {
		return nil, api.ErrLimit
	}
	p := player{d, l}
	answers := make([]string, len(lines))
	for i, line := range lines {
		answers[i] = p.answer(line)
	}
	return answers, api.OK
}

// player carries out lines.
type player struct {
	disk *store.Disk
	lab  *Lab // nil behind an Open that has an error
}

// call carries out a line that has the form of a command, and returns its answer.
type call func() (string, api.Errno)

// command reads the words of a line behind the first one, and returns the call that they stand for.
type command func(w *words) call

// commands returns the commands by their first words.
func (p *player) commands() map[string]command {
	return map[string]command{
		"group":      p.change((*words).group),
		"dim":        p.change((*words).dim),
		"grow":       p.change((*words).grow),
		"drop":       p.change((*words).drop),
		"name":       p.change((*words).name),
		"attr":       p.change((*words).attr),
		"var":        p.variable,
		"write":      p.write,
		"read":       p.read,
		"value":      p.value,
		"derive":     p.derive,
		"current":    p.current,
		"stale":      list(p.lab.Stale),
		"refresh":    list(p.lab.Refresh),
		"count":      p.count,
		"generation": p.generation,
		"arm":        p.arm,
		"crash":      p.crash,
	}
}

func (p *player) answer(line string) string {
	text, errno := p.carryOut(line)
	if errno != api.OK {
		return "error " + strconv.Itoa(int(errno))
	}
	return text
}

func (p *player) carryOut(line string) (string, api.Errno) {
	w := wordsOf(line)
	read, ok := p.commands()[w.word()]
	if !ok {
		return "", api.ErrCommand
	}
	carry := read(w)
	if !w.haveEnded() {
		return "", api.ErrCommand
	}
	return carry()
}

// done returns the answer of a call that returns nothing but an error.
func done(errno api.Errno) (string, api.Errno) {
	if errno != api.OK {
		return "", errno
	}
	return "ok", api.OK
}

// change returns the command of a change, whose words a function reads.
func (p *player) change(read func(w *words) api.Change) command {
	return func(w *words) call {
		c := read(w)
		return func() (string, api.Errno) { return done(p.lab.Change(c)) }
	}
}

// list returns the command of a call without words that returns variables.
func list(variables func() ([]api.Chunk, api.Errno)) command {
	return func(w *words) call {
		return func() (string, api.Errno) {
			l, errno := variables()
			if errno != api.OK {
				return "", errno
			}
			return listOf(l, " ", placeText), api.OK
		}
	}
}

func (p *player) variable(w *words) call {
	path := w.path()
	line := w.some()
	return func() (string, api.Errno) {
		v, errno := parseVar(line)
		if errno != api.OK {
			return "", errno
		}
		return done(p.lab.Change(api.Change{Kind: api.AddVar, Path: path, Var: v}))
	}
}

// shapeOf returns the shape of a slab, and whether it has n elements, which are at most as many as a line has bytes.
func shapeOf(slab []api.Cut, n int) ([]int, bool) {
	var shape []int
	product := 1
	for _, c := range slab {
		shape = append(shape, c.Count)
		product = min(product*c.Count, api.MaxText+1)
	}
	return shape, product == n
}

func (p *player) write(w *words) call {
	path := w.path()
	name := w.word()
	slab := w.slab()
	text := w.word()
	return func() (string, api.Errno) {
		vals, errno := ReadValues(text)
		if errno != api.OK {
			return "", errno
		}
		shape, ok := shapeOf(slab, len(vals))
		if !ok {
			return "", api.ErrShape
		}
		return done(p.lab.Write(path, name, slab, api.Array{Shape: shape, Vals: vals}))
	}
}

func (p *player) read(w *words) call {
	path := w.path()
	name := w.word()
	return func() (string, api.Errno) {
		c, errno := p.lab.content()
		if errno != api.OK {
			return "", errno
		}
		a, errno := c.read(path, name)
		if errno != api.OK {
			return "", errno
		}
		return arrayText(a), api.OK
	}
}

func (p *player) value(w *words) call {
	text := w.some()
	return func() (string, api.Errno) {
		result, a, errno := p.lab.Value(text)
		if errno != api.OK {
			return "", errno
		}
		return listOf(result.Dims, ",", nameText) + " " + arrayText(a), api.OK
	}
}

func (p *player) derive(w *words) call {
	path := w.path()
	name := w.word()
	chunks := w.sizes()
	text := w.some()
	return func() (string, api.Errno) { return done(p.lab.Derive(path, name, text, chunks)) }
}

func (p *player) current(w *words) call {
	path := w.path()
	name := w.word()
	return func() (string, api.Errno) {
		isCurrent, errno := p.lab.Current(path, name)
		switch {
		case errno != api.OK:
			return "", errno
		case isCurrent:
			return "yes", api.OK
		}
		return "no", api.OK
	}
}

func (p *player) count(w *words) call {
	path := w.path()
	name := w.word()
	return func() (string, api.Errno) {
		n, errno := p.lab.Archive().Count(path, name)
		if errno != api.OK {
			return "", errno
		}
		return strconv.Itoa(n), api.OK
	}
}

func (p *player) generation(w *words) call {
	return func() (string, api.Errno) {
		if p.lab == nil {
			return "", api.ErrDown
		}
		return strconv.Itoa(p.lab.Archive().Generation()), api.OK
	}
}

func (p *player) arm(w *words) call {
	n := w.number(w.word())
	return func() (string, api.Errno) {
		p.disk.Arm(n)
		return done(api.OK)
	}
}

func (p *player) crash(w *words) call {
	keep := w.bits()
	return func() (string, api.Errno) {
		p.disk.Crash(keep)
		l, errno := Open(p.disk)
		p.lab = l
		return done(errno)
	}
}
