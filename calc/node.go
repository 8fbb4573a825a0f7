package calc

// node is a node of the text of an expression.
type node interface {
	// parts returns the nodes that belong to it, from left to right.
	parts() []node
	// text returns its text, without parentheses around it.
	text() string
	// infer returns it with its dimensions and its unit, or panics with its error.
	infer(w *world) typed
}

// number is a number, as it is written.
type number struct {
	digits string
}

// variable is a variable of a group.
type variable struct {
	path, name string
}

// single is what nodes have to which one expression belongs.
type single struct {
	of node
}

// negation is a `-` with one operand.
type negation struct {
	single
}

// pair is an operation on the elements of two expressions: a sign between them, or a call.
type pair struct {
	word string
	a, b node
}

// choice is a call of where.
type choice struct {
	test, a, b node
}

// conversion is a call of to, with the text of a unit.
type conversion struct {
	single
	target string
}

// bare is a call of bare.
type bare struct {
	single
}

// along is what calls have that go along a dimension of an expression.
type along struct {
	single
	dim string
}

// reducing is what calls with a reduction have, whose word is red.
type reducing struct {
	along
	red string
}

// reduction is a call of a reduction itself.
type reduction struct {
	reducing
}

// window is a call of window, with its integer as it is written.
type window struct {
	reducing
	length string
}

// grouping is a call of group or cycle.
type grouping struct {
	reducing
	word, field string
}

// slice is a call of slice, with its integers as they are written.
type slice struct {
	along
	start, count, step string
}

func (n *number) parts() []node {
	return nil
}

func (n *variable) parts() []node {
	return nil
}

func (n *single) parts() []node {
	return []node{n.of}
}

func (n *pair) parts() []node {
	return []node{n.a, n.b}
}

func (n *choice) parts() []node {
	return []node{n.test, n.a, n.b}
}

// walk visits a node and all nodes that belong to it.
func walk(n node, visit func(node)) {
	visit(n)
	for _, part := range n.parts() {
		walk(part, visit)
	}
}

// measure returns the number of the nodes, and that of their levels.
func measure(n node) (count, levels int) {
	for _, part := range n.parts() {
		more, deep := measure(part)
		count += more
		levels = max(levels, deep)
	}
	return count + 1, levels + 1
}

// steps returns 1 more than the number of reductions, windows, groups and cycles.
func steps(n node) int {
	count := 1
	walk(n, func(n node) {
		switch n.(type) {
		case *reduction, *window, *grouping:
			count++
		}
	})
	return count
}
