package rule

import (
	"strings"

	"lunette/api"
)

// What stands between words in a text.
const (
	blank   = " "
	isWhat  = " = " // between a relation and its expression
	begin   = "("
	end     = ")"
	lineEnd = "\n"
)

// Show is rules as a text.
func Show(l []api.Kind) (string, api.Errno) {
	if e := Check(l); e != api.OK {
		return "", e
	}
	var s strings.Builder
	for _, k := range l {
		s.WriteString(kindWord + blank + k.Name + lineEnd)
		for _, r := range k.Rules {
			s.WriteString(r.Relation + isWhat + exprText(r.Expr) + lineEnd)
		}
	}
	return s.String(), api.OK
}

// exprText is an expression that may be, as a text.
func exprText(e api.Expr) string {
	switch e.Op {
	case opThis:
		return opThis
	case opRel:
		return e.Name
	case opFrom:
		return begin + opFrom + blank + e.Of + blank + e.Name + end
	}
	s := begin + e.Op
	for _, part := range e.Parts {
		s += blank + exprText(part)
	}
	return s + end
}

// Read is the rules of a text; else which line is wrong.
func Read(s string) ([]api.Kind, int, api.Errno) {
	var l []api.Kind
	count := 0
	for line := range strings.Lines(s) {
		count++
		if name, ok := readKind(line); ok {
			l = append(l, api.Kind{Name: name})
			continue
		}
		r, ok := readRule(line)
		if !ok || len(l) == 0 {
			return nil, count, api.ErrRuleForm
		}
		last := len(l) - 1
		l[last].Rules = append(l[last].Rules, r)
	}
	if e := Check(l); e != api.OK {
		return nil, 0, e
	}
	return l, 0, api.OK
}

// readKind is the name that a kind's line tells, and whether it is one.
func readKind(line string) (string, bool) {
	pass, word := pieces(line)
	if !pass(kindWord + blank) {
		return "", false
	}
	name := word()
	return name, name != "" && pass(lineEnd)
}

// readRule is the rule that a rule's line tells, and whether it is one.
func readRule(line string) (api.Rule, bool) {
	pass, word := pieces(line)
	relation := word()
	if relation == "" || !pass(isWhat) {
		return api.Rule{}, false
	}
	e, ok := readExpr(pass, word)
	return api.Rule{Relation: relation, Expr: e}, ok && pass(lineEnd)
}

// readExpr is the expression that is next, and whether there is one.
func readExpr(pass func(told string) bool, word func() string) (api.Expr, bool) {
	if !pass(begin) {
		return wordExpr(word())
	}
	e := api.Expr{Op: word()}
	if e.Op == opFrom {
		// Behind a word there is none, and so no form, unless a blank was passed.
		pass(blank)
		e.Of = word()
		pass(blank)
		e.Name = word()
		return e, hasForm(e) && pass(end)
	}
	for pass(blank) {
		part, ok := readExpr(pass, word)
		if !ok {
			return api.Expr{}, false
		}
		e.Parts = append(e.Parts, part)
	}
	// One without parts has no brackets, whatever its form.
	return e, len(e.Parts) > 0 && hasForm(e) && pass(end)
}

// wordExpr is the expression that a word tells, and whether it is one.
func wordExpr(w string) (api.Expr, bool) {
	e := api.Expr{Op: opRel, Name: w}
	if w == opThis {
		e = api.Expr{Op: opThis}
	}
	return e, hasForm(e)
}

// pieces is what reads a text piece by piece: pass is whether what is told is next, which is then passed; word is the word that is next, which is passed too (empty, if there is none).
func pieces(s string) (pass func(told string) bool, word func() string) {
	pass = func(told string) bool {
		rest, ok := strings.CutPrefix(s, told)
		s = rest
		return ok
	}
	word = func() string {
		rest := strings.TrimLeftFunc(s, isOfWord)
		w := s[:len(s)-len(rest)]
		s = rest
		return w
	}
	return pass, word
}

// isOfWord is whether a letter may stand in a word.
func isOfWord(r rune) bool {
	return 'a' <= r && r <= 'z' || '0' <= r && r <= '9' || r == '_'
}
