package rule

import (
	"regexp"
	"slices"
	"strings"
	"testing"

	"lunette/api"
)

// The chapter's words, as another program: patterns for names, words and lines, and what may be gone over as it is told.
const (
	wordPattern = `[a-z0-9_]+`
	partPattern = `(?:[a-z0-9_]+|X)`
)

var (
	isNamePattern = regexp.MustCompile(`\A[a-z][a-z0-9_]{0,11}\z`)
	isKindLine    = regexp.MustCompile(`\Akind (` + wordPattern + `)\n\z`)
	isRuleLine    = regexp.MustCompile(`\A(` + wordPattern + `) = ([^X\n]+)\n\z`)
	isPart        = regexp.MustCompile(`\A` + partPattern + `\z`)
	isBracket     = regexp.MustCompile(`\((?:(?:or|and)(?: ` + partPattern + `){2,}|but(?: ` + partPattern + `){2}|from(?: ` + wordPattern + `){2})\)`)
)

// this, rel, from, and of make expressions.
func this() api.Expr { return api.Expr{Op: "this"} }

func rel(name string) api.Expr { return api.Expr{Op: "rel", Name: name} }

func from(of, name string) api.Expr { return api.Expr{Op: "from", Of: of, Name: name} }

func of(op string, parts ...api.Expr) api.Expr { return api.Expr{Op: op, Parts: parts} }

// times is so many of a kind of thing.
func times[T any](n int, make func(i int) T) []T {
	var l []T
	for i := range n {
		l = append(l, make(i))
	}
	return l
}

// nested is an expression that is so deep, of a size of one less than twice that.
func nested(deep int) api.Expr {
	e := this()
	for range deep - 1 {
		e = of("or", this(), e)
	}
	return e
}

// wide is an expression of two deep, of that size.
func wide(size int) api.Expr {
	return of("or", times(size-1, func(int) api.Expr { return this() })...)
}

// number is a name that tells a number.
func number(i int) string {
	return "n" + string([]byte{'a' + byte(i/26/26), 'a' + byte(i/26%26), 'a' + byte(i%26)})
}

// one is a kind with one rule.
func one(e api.Expr) []api.Kind {
	return []api.Kind{{Name: "a", Rules: []api.Rule{{Relation: "b", Expr: e}}}}
}

// wantAll is an expression and all its parts.
func wantAll(e api.Expr) []api.Expr {
	l := []api.Expr{e}
	for at := 0; at < len(l); at++ {
		l = append(l, l[at].Parts...)
	}
	return l
}

// wantDeep is how deep an expression is.
func wantDeep(e api.Expr) int {
	deep := 0
	for _, p := range e.Parts {
		deep = max(deep, wantDeep(p))
	}
	return deep + 1
}

// wantForm is whether an expression, its parts not asked, has a form.
func wantForm(e api.Expr) bool {
	name, of, parts := e.Name != "", e.Of != "", len(e.Parts)
	switch e.Op {
	case "this":
		return !name && !of && parts == 0
	case "rel":
		return name && !of && parts == 0
	case "from":
		return name && of && parts == 0
	case "or", "and":
		return !name && !of && parts >= 2
	case "but":
		return !name && !of && parts == 2
	}
	return false
}

// wantName is whether a text may name a kind, or a relation.
func wantName(s string) bool {
	return isNamePattern.MatchString(s) && !strings.Contains(" this or and but from kind ", " "+s+" ")
}

// wantCheck is whether rules may be.
func wantCheck(l []api.Kind) api.Errno {
	deep, form, name := len(l) > 64, false, false
	var kinds []string
	for _, k := range l {
		name = name || !wantName(k.Name) || slices.Contains(kinds, k.Name)
		kinds = append(kinds, k.Name)
		deep = deep || len(k.Rules) > 64
		var relations []string
		for _, r := range k.Rules {
			name = name || !wantName(r.Relation) || slices.Contains(relations, r.Relation)
			relations = append(relations, r.Relation)
		}
		for _, r := range k.Rules {
			parts := wantAll(r.Expr)
			deep = deep || wantDeep(r.Expr) > 8 || len(parts) > 64
			for _, p := range parts {
				form = form || !wantForm(p)
				name = name || p.Op == "rel" && !slices.Contains(relations, p.Name)
				name = name || p.Op == "from" && (!slices.Contains(relations, p.Of) || !wantName(p.Name))
			}
		}
	}
	switch {
	case deep:
		return 122
	case form:
		return 120
	case name:
		return 121
	}
	return 0
}

// wantText is an expression that has a form, as a text.
func wantText(e api.Expr) string {
	var s strings.Builder
	var tell func(e api.Expr)
	tell = func(e api.Expr) {
		switch e.Op {
		case "this":
			s.WriteString("this")
		case "rel":
			s.WriteString(e.Name)
		case "from":
			s.WriteString("(from " + e.Of + " " + e.Name + ")")
		default:
			s.WriteString("(" + e.Op)
			for _, p := range e.Parts {
				s.WriteString(" ")
				tell(p)
			}
			s.WriteString(")")
		}
	}
	tell(e)
	return s.String()
}

// wantShow is rules whose expressions have a form, as a text.
func wantShow(l []api.Kind) string {
	s := ""
	for _, k := range l {
		s += "kind " + k.Name + "\n"
		for _, r := range k.Rules {
			s += r.Relation + " = " + wantText(r.Expr) + "\n"
		}
	}
	return s
}

// wantExprForm is whether a text is that of an expression: brackets that have no others in them are made parts, as long as there are some.
func wantExprForm(s string) bool {
	for {
		t := isBracket.ReplaceAllString(s, "X")
		if t == s {
			return isPart.MatchString(s)
		}
		s = t
	}
}

// wantExpr is the expression of the words and brackets that a text of one has, and what is left of these.
func wantExpr(words []string) (api.Expr, []string) {
	switch {
	case words[0] == "this":
		return this(), words[1:]
	case words[0] != "(":
		return rel(words[0]), words[1:]
	case words[1] == "from":
		return from(words[2], words[3]), words[5:]
	}
	e := api.Expr{Op: words[1]}
	words = words[2:]
	for words[0] != ")" {
		var p api.Expr
		p, words = wantExpr(words)
		e.Parts = append(e.Parts, p)
	}
	return e, words[1:]
}

// wantRead is what is read of a text.
func wantRead(s string) ([]api.Kind, int, api.Errno) {
	var l []api.Kind
	for i, line := range strings.SplitAfter(s, "\n") {
		if line == "" { // behind the last line feed
			break
		}
		kind, rule := isKindLine.FindStringSubmatch(line), isRuleLine.FindStringSubmatch(line)
		switch {
		case kind != nil:
			l = append(l, api.Kind{Name: kind[1]})
		case rule != nil && len(l) > 0 && wantExprForm(rule[2]):
			e, _ := wantExpr(strings.Fields(strings.NewReplacer("(", "( ", ")", " )").Replace(rule[2])))
			k := &l[len(l)-1]
			k.Rules = append(k.Rules, api.Rule{Relation: rule[1], Expr: e})
		default:
			return nil, i + 1, 120
		}
	}
	if e := wantCheck(l); e != 0 {
		return nil, 0, e
	}
	return l, 0, 0
}

// same is whether expressions are the same: nil and empty Parts are one.
func same(a, b api.Expr) bool {
	return a.Op == b.Op && a.Name == b.Name && a.Of == b.Of && slices.EqualFunc(a.Parts, b.Parts, same)
}

// sameRules is whether rules are the same.
func sameRules(a, b []api.Kind) bool {
	return slices.EqualFunc(a, b, func(a, b api.Kind) bool {
		return a.Name == b.Name && slices.EqualFunc(a.Rules, b.Rules, func(a, b api.Rule) bool {
			return a.Relation == b.Relation && same(a.Expr, b.Expr)
		})
	})
}

// holdsRules holds what is answered of rules against the chapter's words.
func holdsRules(t *testing.T, l []api.Kind) api.Errno {
	t.Helper()
	want := wantCheck(l)
	if e := Check(l); e != want {
		t.Fatalf("Check(%v) is %d, not %d", l, e, want)
	}
	text := ""
	if want == 0 {
		text = wantShow(l)
	}
	if s, e := Show(l); s != text || e != want {
		t.Fatalf("Show(%v) is %q, %d, not %q, %d", l, s, e, text, want)
	}
	but := false
	for _, k := range l {
		for _, r := range k.Rules {
			parts := wantAll(r.Expr)
			but = but || slices.ContainsFunc(parts, func(e api.Expr) bool { return e.Op == "but" })
			if deep, size := Deep(r.Expr), Size(r.Expr); deep != wantDeep(r.Expr) || size != len(parts) {
				t.Fatalf("%v is %d deep, of the size %d", r.Expr, deep, size)
			}
		}
	}
	if got := But(l); got != but {
		t.Fatalf("But(%v) is %v", l, got)
	}
	if want == 0 {
		holdsText(t, text)
	}
	return want
}

// holdsText holds what is read of a text against the chapter's words, and what is told again.
func holdsText(t *testing.T, s string) api.Errno {
	t.Helper()
	want, line, err := wantRead(s)
	l, n, e := Read(s)
	if !sameRules(l, want) || n != line || e != err {
		t.Fatalf("Read(%.300q) is %v, %d, %d, not %v, %d, %d", s, l, n, e, want, line, err)
	}
	if again, e := Show(l); err == 0 && (again != s || e != 0) {
		t.Fatalf("%q is told again as %q, %d", s, again, e)
	}
	return err
}
