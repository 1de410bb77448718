package rule

import "lunette/api"

const (
	opThis = "this"
	opRel  = "rel"
	opFrom = "from"
	opOr   = "or"
	opAnd  = "and"
	opBut  = "but"
	// kindWord begins a kind's line.
	kindWord = "kind"

	// anyParts is more than an expression's parts ever are.
	anyParts = 1<<31 - 1
)

// words is the words that have a meaning in a text: none of them is a name. (rel is no such word: of a rel the text tells its Name alone.)
var words = [...]string{opThis, opOr, opAnd, opBut, opFrom, kindWord}

// forms is what an expression has by its Op: a Name, an Of, and so many Parts.
var forms = [...]struct {
	op          string
	name, of    bool
	least, most int
}{
	{op: opThis},
	{op: opRel, name: true},
	{op: opFrom, name: true, of: true},
	{op: opOr, least: 2, most: anyParts},
	{op: opAnd, least: 2, most: anyParts},
	{op: opBut, least: 2, most: 2},
}

// isWord is whether a text is one of the words that have a meaning.
func isWord(s string) bool {
	for _, w := range words {
		if w == s {
			return true
		}
	}
	return false
}

// hasForm is whether an expression has what its Op has, and nothing else; its parts aren't asked.
func hasForm(e api.Expr) bool {
	for _, f := range forms {
		if f.op == e.Op {
			parts := len(e.Parts)
			return f.name == (e.Name != "") && f.of == (e.Of != "") && f.least <= parts && parts <= f.most
		}
	}
	return false
}
