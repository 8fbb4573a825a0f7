package calc

import "strings"

// Ranks of nodes: one with a lower rank than is asked for in its place needs parentheses.
const (
	rankSum = iota + 1
	rankProduct
	rankFactor
	rankOperand
)

func rank(n node) int {
	switch x := n.(type) {
	case *pair:
		switch x.word {
		case "+", "-":
			return rankSum
		case "*", "/":
			return rankProduct
		}
	case *negation:
		return rankFactor
	}
	return rankOperand
}

// inside returns the text of a node in a place that asks for a rank.
func inside(n node, least int) string {
	if rank(n) < least {
		return "(" + n.text() + ")"
	}
	return n.text()
}

// call returns the text of a call with its arguments.
func call(word string, arguments ...string) string {
	return word + "(" + strings.Join(arguments, ", ") + ")"
}

func (n *number) text() string {
	return n.digits
}

func (n *variable) text() string {
	if n.path == "/" {
		return "/" + n.name
	}
	return n.path + "/" + n.name
}

func (n *negation) text() string {
	return "-" + inside(n.of, rankFactor)
}

func (n *pair) text() string {
	own := rank(n)
	if own == rankOperand {
		return call(n.word, n.a.text(), n.b.text())
	}
	// Operands of the same rank belong together from left to right.
	return inside(n.a, own) + " " + n.word + " " + inside(n.b, own+1)
}

func (n *choice) text() string {
	return call("where", n.test.text(), n.a.text(), n.b.text())
}

func (n *conversion) text() string {
	return call("to", n.of.text(), `"`+n.target+`"`)
}

func (n *bare) text() string {
	return call("bare", n.of.text())
}

func (n *reduction) text() string {
	return call(n.red, n.of.text(), n.dim)
}

func (n *window) text() string {
	return call("window", n.red, n.of.text(), n.dim, n.length)
}

func (n *grouping) text() string {
	return call(n.word, n.red, n.of.text(), n.dim, n.field)
}

func (n *slice) text() string {
	return call("slice", n.of.text(), n.dim, n.start, n.count, n.step)
}
