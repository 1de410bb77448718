package rule

import (
	"strings"
	"testing"

	"lunette/api"
)

// P12.1: which line is wrong, by hand.
func TestReadOfWrongLines(t *testing.T) {
	for _, x := range []struct {
		text string
		line int
	}{
		{"\n", 1}, {" ", 1}, {"a", 1}, {"kind", 1}, {"kind a", 1}, {"kind\n", 1}, {"kind \n", 1}, {"kind  a\n", 1}, {" kind a\n", 1}, {"kind a \n", 1},
		{"kind a b\n", 1}, {"kind A\n", 1}, {"kind a-b\n", 1}, {"kind a.b\n", 1}, {"kind é\n", 1}, {"kind a\xff\n", 1}, {"kind a\x00\n", 1}, {"kind a\r\n", 1},
		{"kind\ta\n", 1}, {"kinda\n", 1}, {"Kind a\n", 1}, {"kind (a)\n", 1}, {"kind =\n", 1}, {"kind = a\n", 1}, {"kind a = this\n", 1}, {"#\n", 1},
		{"a = this\n", 1}, {"kind = this\n", 1}, {"a = this\nkind a\n", 1}, {"\nkind a\n", 1}, {"\n\n", 1}, {"a = \nb\n", 1},
		{"kind a\n\n", 2}, {"kind a\n ", 2}, {"kind a\n \n", 2}, {"kind a\nkind b", 2}, {"kind a\nb = this", 2}, {"kind a\nb = this\n\n", 3}, {"kind a\nb = this\n ", 3},
		{"kind a\nkind b\nkind c\nd = (\ne = (\n", 4}, {"kind a\nb = this\nkind c\nd = this\ne = this\nkind f", 6},
		{"kind a\nkind a\nkind A\n", 3}, {"kind 1\nkind this\nb = this\nb = c\n(\n", 5}, // the names are asked behind the lines
		{"kind a\nb = this\nc = this \nd = \n", 3},
	} {
		if l, n, e := Read(x.text); l != nil || n != x.line || e != api.ErrRuleForm {
			t.Errorf("Read(%q) is %v, %d, %d", x.text, l, n, e)
		}
		holdsText(t, x.text)
	}
}

// P12.1: what is no rule's line, by hand.
func TestReadOfWrongRules(t *testing.T) {
	for _, s := range []string{
		"b", "b ", "b =", "b = ", "b =  ", "b=this", "b= this", "b =this", "b  = this", "b =  this", " b = this", "b = this ", "b = this this", "b = this b", "b == this",
		"B = this", "b = This", "b-c = this", "é = this", "b = é", "b\xff = this", " = this", "= this", "b c = this", "(b) = this", "b = b-c", "b = b.c", "b = b:c", "b = this\r",
		"b = \"this\"", "b = this;", "b = this\x00", "b\t=\tthis", "b = =", "b = b = b", "b = kind b", "kind b = this",
		"b = (", "b = )", "b = ()", "b = ( )", "b = (this)", "b = (b)", "b = (rel)", "b = (rel b)", "b = (rel b b)", "b = (this b b)", "b = (kind b b)", "b = (b b b)",
		"b = (Or b b)", "b = (oror b b)", "b = (or)", "b = (and)", "b = (but)", "b = (from)", "b = (or )", "b = (or b)", "b = (and b)", "b = (but b)", "b = (from b)", "b = (from b )",
		"b = (or b )", "b = (or b b", "b = (or b b ", "b = (or b b )", "b = ( or b b)", "b = (or  b b)", "b = (or b  b)", "b = (or b b))", "b = (or b b) ", "b = (or b b) b", "b = (or b b)b",
		"b = ((or b b))", "b = ((or b b)", "b = (or(or b b) b)", "b = (or (or b b)b)", "b = (or (or b b)(or b b))", "b = (or b(or b b))", "b = (or b (or b b) )", "b = (or b ( or b b))",
		"b = (or b (b))", "b = (or b (this))", "b = (or b (or b))", "b = (or (or b) b)", "b = (or b (from b))", "b = (or b (but b b b))", "b = (or b (or b b)", "b = (or b (or b b)))",
		"b = (or b ())", "b = (or b B)", "b = (or b b-)", "b = (or,b b)", "b = or b b", "b = or b b)", "b = (or b\tb)", "b = (or b b) )", "b = (() b b)", "b = ((or) b b)",
		"b = (but b b b)", "b = (but b b b b)", "b = (but b)", "b = (but (but b b))", "b = (but b b", "b = (but  b b)",
		"b = (from b b", "b = (from b b b)", "b = (from b b )", "b = (from  b b)", "b = (from b  b)", "b = (from(b) b)", "b = (from (or b b) b)", "b = (from b (or b b))", "b = (from b b))",
		"b = (from B b)", "b = (from b B)", "b = (from b,b)", "b = (from b b)b", "b = (frombb)", "b = (from bb)", "b = (from (from b b) b)",
		"b = " + strings.Repeat("(or b ", 1<<16), "b = " + strings.Repeat("(or ", 1<<16), "b = " + strings.Repeat("(", 1<<16), "b = " + strings.Repeat("(or b ", 1<<16) + "b" + strings.Repeat(")", 1<<16-1),
		"b = " + strings.Repeat("(or b ", 1<<16) + "b" + strings.Repeat(")", 1<<16+1), "b = " + strings.Repeat("b ", 1<<20), strings.Repeat("b", 1<<20), "b = (or" + strings.Repeat(" b", 1<<20),
		strings.Repeat("\x00", 1<<20), "b = (but" + strings.Repeat(" b", 1<<20) + ")",
	} {
		for _, x := range []struct {
			text string
			line int
		}{
			{"kind a\n" + s + "\n", 2},
			{"kind a\nc = this\nkind d\n" + s + "\nb = (\n", 4},
			{"kind a\n" + s, 2},
		} {
			if l, n, e := Read(x.text); l != nil || n != x.line || e != api.ErrRuleForm {
				t.Errorf("Read(%.200q) is %v, %d, %d", x.text, l, n, e)
			}
		}
	}
}

// P12.1: lines that have the form of one, whatever they tell; what the rules are wrong in is no line's fault.
func TestReadOfWrongNames(t *testing.T) {
	for _, x := range []struct {
		text string
		want api.Errno
	}{
		{"kind this\n", api.ErrRuleName}, {"kind kind\n", api.ErrRuleName}, {"kind _\n", api.ErrRuleName}, {"kind 0\n", api.ErrRuleName}, {"kind zzzzzzzzzzzzz\n", api.ErrRuleName},
		{"kind " + strings.Repeat("z", 1<<20) + "\n", api.ErrRuleName},
		{"kind a\nkind a\n", api.ErrRuleName}, {"kind a\nb = this\nkind a\n", api.ErrRuleName},
		{"kind a\nkind = this\n", api.ErrRuleName}, {"kind a\nthis = this\n", api.ErrRuleName}, {"kind a\n1 = this\n", api.ErrRuleName},
		{"kind a\nb = this\nb = this\n", api.ErrRuleName}, {"kind a\nb = c\n", api.ErrRuleName}, {"kind a\nb = kind\n", api.ErrRuleName}, {"kind a\nb = or\n", api.ErrRuleName},
		{"kind a\nb = from\n", api.ErrRuleName}, {"kind a\nb = rel\n", api.ErrRuleName}, {"kind a\nb = 1\n", api.ErrRuleName}, {"kind a\nb = (or or or)\n", api.ErrRuleName},
		{"kind a\nb = (from from from)\n", api.ErrRuleName}, {"kind a\nb = (from this b)\n", api.ErrRuleName}, {"kind a\nb = (from b this)\n", api.ErrRuleName},
		{"kind a\nb = (from c b)\nkind d\nc = this\n", api.ErrRuleName}, {"kind a\nb = (from b 1)\n", api.ErrRuleName}, {"kind a\nb = (or kind this)\n", api.ErrRuleName},
		{"kind a\nb = (from b c)\n", api.OK}, {"kind a\nb = (from b c)\nkind c\n", api.OK}, {"kind a\nb = (or rel this)\nrel = b\n", api.OK},
		{"kind a\nb = c\nb = " + wantText(nested(9)) + "\n", api.ErrRuleDeep}, {"kind this\nb = " + wantText(wide(65)) + "\n", api.ErrRuleDeep},
		{"kind a\nb = " + wantText(nested(8)) + "\n", api.OK}, {"kind a\nb = " + wantText(wide(64)) + "\n", api.OK},
		{"kind a\nb = " + strings.Repeat("(or b ", 1<<16) + "b" + strings.Repeat(")", 1<<16) + "\n", api.ErrRuleDeep},
		{"kind a\nb = (or" + strings.Repeat(" b", 1<<20) + ")\n", api.ErrRuleDeep}, {"kind a\nb = (and" + strings.Repeat(" b", 1<<10) + ")\n", api.ErrRuleDeep},
		{strings.Repeat("kind a\n", 64), api.ErrRuleName}, {strings.Repeat("kind a\n", 65), api.ErrRuleDeep},
		{"kind a\n" + strings.Repeat("b = this\n", 64), api.ErrRuleName}, {"kind a\n" + strings.Repeat("b = this\n", 65), api.ErrRuleDeep},
		{"kind a\n" + strings.Repeat("b = this\n", 1<<16), api.ErrRuleDeep},
	} {
		l, n, e := Read(x.text)
		if n != 0 || e != x.want || e != api.OK && l != nil {
			t.Errorf("Read(%.200q) is %v, %d, %d", x.text, l, n, e)
		}
		if again, _ := Show(l); e == api.OK && again != x.text {
			t.Errorf("%q is told again as %q", x.text, again)
		}
	}
}

// P12.1, P12.3: each cut, piece twice, byte more, byte less and byte turned in written rules' texts.
func TestReadOfTurnedTexts(t *testing.T) {
	for _, x := range written {
		for at := range len(x.text) + 1 {
			a, b := x.text[:at], x.text[at:]
			holdsText(t, a)
			holdsText(t, b)
			holdsText(t, b+a)
			holdsText(t, a+x.text)
			if b != "" {
				holdsText(t, a+b[1:])
			}
			for _, c := range " \n()=_09azA\x00\xff:-/`{\r\t" {
				holdsText(t, a+string(c)+b)
				if b != "" {
					holdsText(t, a+string(c)+b[1:])
				}
			}
		}
	}
	const s = "kind a\nb = (but this (from b b))\n"
	for at := range len(s) {
		for turned := range 256 {
			holdsText(t, s[:at]+string([]byte{byte(turned)})+s[at+1:])
		}
	}
}

// each does with all texts of at most so many pieces.
func each(pieces []string, most int, do func(s string)) {
	var more func(s string, left int)
	more = func(s string, left int) {
		do(s)
		if left == 0 {
			return
		}
		for _, p := range pieces {
			more(s+p, left-1)
		}
	}
	more("", most)
}

// P12.1, P12.3: all texts of few pieces: of lines, and of expressions.
func TestReadOfAllTextsOfPieces(t *testing.T) {
	seen := map[api.Errno]int{}
	hold := func(s string) { seen[holdsText(t, s)]++ }
	each([]string{"kind", " ", "\n", "a", "=", "this"}, 6, hold)
	each([]string{"kind a\n", "kind b", "a = ", "b = ", "this", "\n", "a"}, 5, hold)
	each([]string{"(or", "(but", " a", " (", "from", " this", ")"}, 5, func(s string) { hold("kind a\na = " + s + "\n") })
	each([]string{"(", ")", " ", "and", "a", "1"}, 6, func(s string) { hold("kind a\na = " + s + "\n") })
	each([]string{"(or a", "(but this", "(from a a)", " ", "a", ")"}, 6, func(s string) { hold("kind a\na = " + s + "\n") })
	if seen[api.OK] < 100 || seen[api.ErrRuleForm] < 100000 || seen[api.ErrRuleName] < 100 {
		t.Errorf("of all texts %v", seen)
	}
}
