package calc_test

import (
	"regexp"
	"strings"
)

var (
	anOperand = regexp.MustCompile(`^(?:[0-9]+\.[0-9]+|[0-9]+|(?:/[a-z][a-z0-9_]{0,15}){1,5}|[a-z][a-z0-9_]*|"[ !#-~]*"|[(-])`)
	aSign     = regexp.MustCompile(`^[-+*/(),]`)
)

// tokens returns a text as single tokens: i for an integer, n for another number, v for a variable, q for a text in quotes, words in angle brackets, signs as they are. It returns an empty text if the text has other bytes.
func tokens(text string) string {
	var out strings.Builder
	behind := false // an operand
	for {
		text = strings.TrimLeft(text, " ")
		if text == "" {
			return out.String()
		}
		token := anOperand.FindString(text)
		if behind || token == "" {
			token = aSign.FindString(text)
		}
		if token == "" {
			return ""
		}
		text = text[len(token):]
		behind = !strings.Contains("-+*/(,", token)
		switch {
		case !behind || token == ")":
			out.WriteString(token)
		case token[0] == '/':
			out.WriteString("v")
		case token[0] == '"':
			out.WriteString("q")
		case token[0] >= 'a':
			out.WriteString("<" + token + ">")
		case strings.Contains(token, "."):
			out.WriteString("n")
		default:
			out.WriteString("i")
		}
		behind = behind && !(token[0] >= 'a' && strings.HasPrefix(strings.TrimLeft(text, " "), "("))
	}
}

// rules are what becomes an expression e, one step after the other.
var rules = []*regexp.Regexp{
	regexp.MustCompile(`<(?:sum|mean|min|max|count)>\([inve],<[^>]*>\)`),
	regexp.MustCompile(`<window>\(<(?:sum|mean|min|max|count)>,[inve],<[^>]*>,i\)`),
	regexp.MustCompile(`<(?:group|cycle)>\(<(?:sum|mean|min|max|count)>,[inve],<[^>]*>,<(?:year|month|season|day)>\)`),
	regexp.MustCompile(`<slice>\([inve],<[^>]*>,i,i,i\)`),
	regexp.MustCompile(`<(?:lesser|greater|eq|lt|le|else)>\([inve],[inve]\)`),
	regexp.MustCompile(`<where>\([inve],[inve],[inve]\)`),
	regexp.MustCompile(`<to>\([inve],q\)`),
	regexp.MustCompile(`<bare>\([inve]\)`),
}

var (
	negated  = regexp.MustCompile(`(^|[-+*/(,])-[inve]`)
	combined = regexp.MustCompile(`[inve][-+*/][inve]`)
	enclosed = regexp.MustCompile(`(^|[^>])\([inve]\)`)
)

// recognized reports whether a text is an expression (of few nodes): all of it becomes one expression.
func recognized(text string) bool {
	rest := tokens(text)
	for {
		before := rest
		for _, rule := range rules {
			rest = rule.ReplaceAllString(rest, "e")
		}
		rest = enclosed.ReplaceAllString(rest, "${1}e")
		rest = negated.ReplaceAllString(rest, "${1}e")
		rest = combined.ReplaceAllString(rest, "e")
		if rest == before {
			return rest == "e" || rest == "i" || rest == "n" || rest == "v"
		}
	}
}
