package calc

import (
	"slices"
	"strings"

	"arrayarchive/api"
)

// parser reads a text; it panics with the error of one that is no expression.
type parser struct {
	text string
	at   int
}

// parse returns the outermost node of a text.
func parse(text string) node {
	p := parser{text: short(text)}
	root := p.expression()
	if p.at < len(text) {
		panic(api.ErrSyntax)
	}
	if count, levels := measure(root); count > api.MaxNodes || levels > api.MaxLevel {
		panic(api.ErrLimit)
	}
	return root
}

// peek returns the first byte behind spaces, or 0 at the end.
func (p *parser) peek() byte {
	for p.at < len(p.text) && p.text[p.at] == ' ' {
		p.at++
	}
	if p.at == len(p.text) {
		return 0
	}
	return p.text[p.at]
}

// take reports whether a sign comes next, and goes behind it.
func (p *parser) take(sign byte) bool {
	if p.peek() != sign {
		return false
	}
	p.at++
	return true
}

func (p *parser) expect(sign byte) {
	if !p.take(sign) {
		panic(api.ErrSyntax)
	}
}

// run returns the bytes from here on that are of one kind, at most so many.
func (p *parser) run(is func(byte) bool, most int) string {
	start := p.at
	for p.at < len(p.text) && p.at < start+most && is(p.text[p.at]) {
		p.at++
	}
	return p.text[start:p.at]
}

func (p *parser) expression() node {
	return p.chain("+-", p.term)
}

func (p *parser) term() node {
	return p.chain("*/", p.factor)
}

// chain returns operands with signs between them, each of which belongs to all that is on its left.
func (p *parser) chain(signs string, operand func() node) node {
	left := operand()
	for strings.IndexByte(signs, p.peek()) >= 0 {
		sign := p.text[p.at : p.at+1]
		p.at++
		right := operand()
		left = &pair{word: sign, a: left, b: right}
	}
	return left
}

func (p *parser) factor() node {
	if p.take('-') {
		return &negation{single{p.factor()}}
	}
	return p.operand()
}

func (p *parser) operand() node {
	switch next := p.peek(); {
	case isDigit(next):
		return p.number()
	case next == '/':
		return p.variable()
	case isLetter(next):
		return p.call()
	}
	p.expect('(')
	inner := p.expression()
	p.expect(')')
	return inner
}

func (p *parser) number() node {
	digits := p.digits()
	if p.at < len(p.text) && p.text[p.at] == '.' {
		p.at++
		digits += "." + p.some(isDigit)
	}
	return &number{digits}
}

// some returns the bytes from here on that are of one kind; there must be one.
func (p *parser) some(is func(byte) bool) string {
	bytes := p.run(is, len(p.text))
	if bytes == "" {
		panic(api.ErrSyntax)
	}
	return bytes
}

func (p *parser) digits() string {
	p.peek()
	return p.some(isDigit)
}

func (p *parser) word() string {
	if !isLetter(p.peek()) {
		panic(api.ErrSyntax)
	}
	return p.some(inWord)
}

// oneOf returns the next word, which must be one of a list.
func (p *parser) oneOf(words []string) string {
	word := p.word()
	if !slices.Contains(words, word) {
		panic(api.ErrSyntax)
	}
	return word
}

// variable returns the variable with as many names as possible.
func (p *parser) variable() node {
	var names []string
	for len(names) <= api.MaxDepth && p.atName() {
		p.at++
		names = append(names, p.run(inWord, api.MaxName))
	}
	if len(names) == 0 {
		panic(api.ErrSyntax)
	}
	last := len(names) - 1
	return &variable{path: "/" + strings.Join(names[:last], "/"), name: names[last]}
}

// atName reports whether a `/` and a name come next, without a space.
func (p *parser) atName() bool {
	return p.at+1 < len(p.text) && p.text[p.at] == '/' && isLetter(p.text[p.at+1])
}

func (p *parser) quoted() string {
	p.expect('"')
	text := p.run(inQuotes, len(p.text))
	p.expect('"')
	return text
}

func (p *parser) call() node {
	word := p.word()
	p.expect('(')
	n := p.arguments(word)
	p.expect(')')
	return n
}

// arguments returns the call of a word, with what stands between its parentheses.
func (p *parser) arguments(word string) node {
	switch word {
	case "sum", "mean", "min", "max", "count":
		return &reduction{reducing{p.along(), word}}
	case "window":
		return p.window()
	case "group", "cycle":
		return p.grouping(word)
	case "slice":
		return p.slice()
	case "lesser", "greater", "eq", "lt", "le", "else":
		a := p.expression()
		return &pair{word: word, a: a, b: p.another()}
	case "where":
		test := p.expression()
		a := p.another()
		return &choice{test: test, a: a, b: p.another()}
	case "to":
		of := p.expression()
		p.expect(',')
		return &conversion{single{of}, p.quoted()}
	case "bare":
		return &bare{single{p.expression()}}
	}
	panic(api.ErrSyntax)
}

// another returns the expression behind a comma.
func (p *parser) another() node {
	p.expect(',')
	return p.expression()
}

// along returns an expression and the name of a dimension.
func (p *parser) along() along {
	of := p.expression()
	p.expect(',')
	return along{single{of}, p.word()}
}

// integer returns the digits behind a comma.
func (p *parser) integer() string {
	p.expect(',')
	return p.digits()
}

// reducing returns a reduction, and an expression and the name of a dimension.
func (p *parser) reducing() reducing {
	red := p.oneOf(reductionWords())
	p.expect(',')
	return reducing{p.along(), red}
}

func (p *parser) window() node {
	base := p.reducing()
	return &window{base, p.integer()}
}

func (p *parser) grouping(word string) node {
	base := p.reducing()
	p.expect(',')
	return &grouping{base, word, p.oneOf(fieldWords())}
}

func (p *parser) slice() node {
	base := p.along()
	start := p.integer()
	count := p.integer()
	return &slice{along: base, start: start, count: count, step: p.integer()}
}
