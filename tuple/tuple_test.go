package tuple

import (
	"math/rand"
	"regexp"
	"slices"
	"strings"
	"testing"

	"lunette/api"
)

// The chapter's words as patterns: of names, of objects' names, of a user's text, and of a tuple's.
const (
	namePattern = `[a-z][a-z0-9_]{0,11}`
	idPattern   = `[a-z0-9_.-]{1,16}`
	userPattern = `(` + namePattern + `):(` + idPattern + `)(?:#(` + namePattern + `))?`
)

var (
	isName   = regexp.MustCompile(`\A` + namePattern + `\z`)
	isID     = regexp.MustCompile(`\A` + idPattern + `\z`)
	asUser   = regexp.MustCompile(`\A` + userPattern + `\z`)
	asTuple  = regexp.MustCompile(`\A(` + namePattern + `):(` + idPattern + `)#(` + namePattern + `)@` + userPattern + `\z`)
	longName = strings.Repeat("z", api.MaxName)
	longID   = strings.Repeat("z", api.MaxID)
)

// made is a tuple of its six parts.
func made(kind, id, relation, userKind, userID, userRelation string) api.Tuple {
	return api.Tuple{Kind: kind, ID: id, Relation: relation, User: api.User{Kind: userKind, ID: userID, Relation: userRelation}}
}

// six is the six parts of a tuple.
func six(t api.Tuple) []string {
	return []string{t.Kind, t.ID, t.Relation, t.User.Kind, t.User.ID, t.User.Relation}
}

// Tuples that may be, with their texts and keys, written out by hand: ordinary ones and the edges.
var tuples = []struct {
	tuple           api.Tuple
	text, key, back string
}{
	{
		made("doc", "a.txt", "viewer", "group", "eng", "member"), "doc:a.txt#viewer@group:eng#member",
		"f\x00\x00doc\x00\x00a.txt\x00\x00viewer\x00\x00group\x00\x00eng\x00\x00member\x00\x00",
		"r\x00\x00group\x00\x00eng\x00\x00member\x00\x00doc\x00\x00a.txt\x00\x00viewer\x00\x00",
	},
	{
		made("doc", "a.txt", "viewer", "user", "ann", ""), "doc:a.txt#viewer@user:ann",
		"f\x00\x00doc\x00\x00a.txt\x00\x00viewer\x00\x00user\x00\x00ann\x00\x00\x00\x00",
		"r\x00\x00user\x00\x00ann\x00\x00\x00\x00doc\x00\x00a.txt\x00\x00viewer\x00\x00",
	},
	{
		made("a", "b", "c", "d", "e", "f"), "a:b#c@d:e#f",
		"f\x00\x00a\x00\x00b\x00\x00c\x00\x00d\x00\x00e\x00\x00f\x00\x00",
		"r\x00\x00d\x00\x00e\x00\x00f\x00\x00a\x00\x00b\x00\x00c\x00\x00",
	},
	{
		made("r", "f", "r", "f", "r", ""), "r:f#r@f:r",
		"f\x00\x00r\x00\x00f\x00\x00r\x00\x00f\x00\x00r\x00\x00\x00\x00",
		"r\x00\x00f\x00\x00r\x00\x00\x00\x00r\x00\x00f\x00\x00r\x00\x00",
	},
	{
		made("k_1", "..-_0", "r_", "z9", "9", "a_9"), "k_1:..-_0#r_@z9:9#a_9",
		"f\x00\x00k_1\x00\x00..-_0\x00\x00r_\x00\x00z9\x00\x009\x00\x00a_9\x00\x00",
		"r\x00\x00z9\x00\x009\x00\x00a_9\x00\x00k_1\x00\x00..-_0\x00\x00r_\x00\x00",
	},
	{
		made("doc", "a", "viewer", "doc", "a", "viewer"), "doc:a#viewer@doc:a#viewer",
		"f\x00\x00doc\x00\x00a\x00\x00viewer\x00\x00doc\x00\x00a\x00\x00viewer\x00\x00",
		"r\x00\x00doc\x00\x00a\x00\x00viewer\x00\x00doc\x00\x00a\x00\x00viewer\x00\x00",
	},
	{
		made(longName, longID, longName, longName, longID, longName),
		"zzzzzzzzzzzz:zzzzzzzzzzzzzzzz#zzzzzzzzzzzz@zzzzzzzzzzzz:zzzzzzzzzzzzzzzz#zzzzzzzzzzzz",
		"f\x00\x00zzzzzzzzzzzz\x00\x00zzzzzzzzzzzzzzzz\x00\x00zzzzzzzzzzzz\x00\x00zzzzzzzzzzzz\x00\x00zzzzzzzzzzzzzzzz\x00\x00zzzzzzzzzzzz\x00\x00",
		"r\x00\x00zzzzzzzzzzzz\x00\x00zzzzzzzzzzzzzzzz\x00\x00zzzzzzzzzzzz\x00\x00zzzzzzzzzzzz\x00\x00zzzzzzzzzzzzzzzz\x00\x00zzzzzzzzzzzz\x00\x00",
	},
}

// holdsNames holds Name's and ID's answers of a text against the chapter's words.
func holdsNames(t *testing.T, s string) {
	t.Helper()
	if got, want := Name(s), isName.MatchString(s); got != want {
		t.Errorf("Name(%q) is %v", s, got)
	}
	if got, want := ID(s), isID.MatchString(s); got != want {
		t.Errorf("ID(%q) is %v", s, got)
	}
}

// P11.1: ordinary ones, and the edges.
func TestNameAndID(t *testing.T) {
	for _, x := range []struct {
		s        string
		name, id bool
	}{
		{"", false, false},
		{"a", true, true},
		{"z", true, true},
		{"doc", true, true},
		{"k_1", true, true},
		{"a_", true, true},
		{"a0", true, true},
		{"z9", true, true},
		{"_", false, true},
		{"_a", false, true},
		{"0", false, true},
		{"9a", false, true},
		{"-", false, true},
		{".", false, true},
		{"..", false, true},
		{"a.txt", false, true},
		{"a-b", false, true},
		{"A", false, false},
		{"aB", false, false},
		{"Z", false, false},
		{"a b", false, false},
		{" a", false, false},
		{"a ", false, false},
		{"a\n", false, false},
		{"a\x00", false, false},
		{"\x00", false, false},
		{"a:b", false, false},
		{"a#b", false, false},
		{"a@b", false, false},
		{"a/b", false, false},
		{"`", false, false},
		{"{", false, false},
		{"a\xff", false, false},
		{"\xc3", false, false},
		{"é", false, false},
		{"aé", false, false},
		{"а", false, false},  // a Cyrillic letter
		{"a٣", false, false}, // an Arabic digit
		{"ａ", false, false},  // a wide letter
		{"a\uFFFD", false, false},
		{"a\u0161", false, false}, // its lowest byte is a's
		{strings.Repeat("a", 12), true, true},
		{strings.Repeat("a", 13), false, true},
		{strings.Repeat("a", 16), false, true},
		{strings.Repeat("a", 17), false, false},
		{"a" + strings.Repeat("_", 11), true, true},
		{"a" + strings.Repeat("9", 12), false, true},
		{strings.Repeat(".", 16), false, true},
		{strings.Repeat(".", 17), false, false},
		{strings.Repeat("é", 6), false, false},
		{strings.Repeat("a", 1<<20), false, false},
	} {
		if got := Name(x.s); got != x.name {
			t.Errorf("Name(%.40q) is %v", x.s, got)
		}
		if got := ID(x.s); got != x.id {
			t.Errorf("ID(%.40q) is %v", x.s, got)
		}
	}
}

// P11.1: each byte, and each rune of two bytes, alone and at each place.
func TestNameAndIDOfEachLetter(t *testing.T) {
	letters := []string{"\u0161", "\u0461", "\uff41", "\U00010061", "\uFFFD"}
	for b := range 256 {
		letters = append(letters, string([]byte{byte(b)}), string(rune(b)), string(rune(256+b)))
	}
	for _, l := range letters {
		holdsNames(t, l)
		for at := range 17 {
			holdsNames(t, strings.Repeat("a", at)+l)
			holdsNames(t, strings.Repeat("a", at)+l+"a")
			holdsNames(t, l+strings.Repeat("a", at))
		}
	}
}

// odd is texts for a tuple's parts: that may be as a name, an object's name, and none of these.
var odd = []string{
	"", "a", "b2", "c_", longName, longName + "z", "_", "9", "a-b", "a.b", longID, longID + "z",
	"A", "é", "\x00", "a\x00", "a:b", "a#b", "a@b", "a b", "a\xff",
}

// P11.1, P11.2: each mix of two odd parts in a tuple that may be else.
func TestCheckOfEachPart(t *testing.T) {
	for _, base := range []api.Tuple{made("a", "b", "c", "d", "e", "f"), made("a", "b", "c", "d", "e", "")} {
		for i := range 6 {
			for j := range i + 1 {
				for _, x := range odd {
					for _, y := range odd {
						p := six(base)
						p[i], p[j] = x, y
						holdsTuple(t, made(p[0], p[1], p[2], p[3], p[4], p[5]))
					}
				}
			}
		}
	}
	holdsTuple(t, api.Tuple{})
}

// mayBe is the chapter's words of tuples.
func mayBe(x api.Tuple) bool {
	return isName.MatchString(x.Kind) && isID.MatchString(x.ID) && isName.MatchString(x.Relation) && mayBeUser(x.User)
}

// mayBeUser is the chapter's words of users.
func mayBeUser(u api.User) bool {
	return isName.MatchString(u.Kind) && isID.MatchString(u.ID) && (u.Relation == "" || isName.MatchString(u.Relation))
}

// shown is a user's text by the chapter's words.
func shown(u api.User) string {
	if u.Relation == "" {
		return u.Kind + ":" + u.ID
	}
	return u.Kind + ":" + u.ID + "#" + u.Relation
}

// holdsTuple holds what is answered of a tuple against the chapter's words, and what is read again.
func holdsTuple(t *testing.T, x api.Tuple) {
	t.Helper()
	want, text, user, key, back := api.ErrTupleName, "", "", "", ""
	if mayBe(x) {
		const end = "\x00\x00"
		u := x.User
		want = api.OK
		text = x.Kind + ":" + x.ID + "#" + x.Relation + "@" + shown(u)
		key = "f" + end + strings.Join([]string{x.Kind, x.ID, x.Relation, u.Kind, u.ID, u.Relation}, end) + end
		back = "r" + end + strings.Join([]string{u.Kind, u.ID, u.Relation, x.Kind, x.ID, x.Relation}, end) + end
	}
	if e := Check(x); e != want {
		t.Errorf("Check(%q) is %d", x, e)
	}
	if s, e := Show(x); s != text || e != want {
		t.Errorf("Show(%q) is %q, %d", x, s, e)
	}
	if s, e := Key(x); s != key || e != want {
		t.Errorf("Key(%q) is %q, %d", x, s, e)
	}
	if s, e := Back(x); s != back || e != want {
		t.Errorf("Back(%q) is %q, %d", x, s, e)
	}
	userWant := api.ErrTupleName
	if mayBeUser(x.User) {
		userWant, user = api.OK, shown(x.User)
	}
	if s, e := ShowUser(x.User); s != user || e != userWant {
		t.Errorf("ShowUser(%q) is %q, %d", x.User, s, e)
	}
	if want == api.OK {
		holdsText(t, text)
		holdsText(t, user)
		holdsKey(t, key)
		holdsKey(t, back)
	}
}

// holdsText holds what is read of a text, as a tuple and as a user, against the chapter's words.
func holdsText(t *testing.T, s string) {
	t.Helper()
	want, wantErr := api.Tuple{}, api.ErrTupleForm
	if p := asTuple.FindStringSubmatch(s); p != nil {
		want, wantErr = made(p[1], p[2], p[3], p[4], p[5], p[6]), api.OK
	}
	if x, e := Read(s); x != want || e != wantErr {
		t.Errorf("Read(%.200q) is %q, %d, not %q", s, x, e, want)
	}
	user, userErr := api.User{}, api.ErrTupleForm
	if p := asUser.FindStringSubmatch(s); p != nil {
		user, userErr = api.User{Kind: p[1], ID: p[2], Relation: p[3]}, api.OK
	}
	if u, e := ReadUser(s); u != user || e != userErr {
		t.Errorf("ReadUser(%.200q) is %q, %d, not %q", s, u, e, user)
	}
}

// holdsKey holds the tuple of a key against the chapter's words: no name has a nought, so its parts stand between pairs of these.
func holdsKey(t *testing.T, s string) {
	t.Helper()
	want, back, wantErr := api.Tuple{}, false, api.ErrTupleForm
	if p := strings.Split(s, "\x00\x00"); len(p) == 8 && p[7] == "" {
		x, y := made(p[1], p[2], p[3], p[4], p[5], p[6]), made(p[4], p[5], p[6], p[1], p[2], p[3])
		switch {
		case p[0] == "f" && mayBe(x):
			want, wantErr = x, api.OK
		case p[0] == "r" && mayBe(y):
			want, back, wantErr = y, true, api.OK
		}
	}
	if x, b, e := OfKey(s); x != want || b != back || e != wantErr {
		t.Errorf("OfKey(%.200q) is %q, %v, %d, not %q, %v", s, x, b, e, want, back)
	}
}

// P11.1, P11.2: as written out by hand, there and back.
func TestTuples(t *testing.T) {
	for _, x := range tuples {
		if e := Check(x.tuple); e != api.OK {
			t.Errorf("Check(%q) is %d", x.tuple, e)
		}
		if s, e := Show(x.tuple); s != x.text || e != api.OK {
			t.Errorf("Show(%q) is %q, %d", x.tuple, s, e)
		}
		if y, e := Read(x.text); y != x.tuple || e != api.OK {
			t.Errorf("Read(%q) is %q, %d", x.text, y, e)
		}
		if s, e := Key(x.tuple); s != x.key || e != api.OK {
			t.Errorf("Key(%q) is %q, %d", x.tuple, s, e)
		}
		if s, e := Back(x.tuple); s != x.back || e != api.OK {
			t.Errorf("Back(%q) is %q, %d", x.tuple, s, e)
		}
		if y, back, e := OfKey(x.key); y != x.tuple || back || e != api.OK {
			t.Errorf("OfKey(%q) is %q, %v, %d", x.key, y, back, e)
		}
		if y, back, e := OfKey(x.back); y != x.tuple || !back || e != api.OK {
			t.Errorf("OfKey(%q) is %q, %v, %d", x.back, y, back, e)
		}
		_, user, _ := strings.Cut(x.text, "@")
		if s, e := ShowUser(x.tuple.User); s != user || e != api.OK {
			t.Errorf("ShowUser(%q) is %q, %d", x.tuple.User, s, e)
		}
		if u, e := ReadUser(user); u != x.tuple.User || e != api.OK {
			t.Errorf("ReadUser(%q) is %q, %d", user, u, e)
		}
	}
}

// P11.1, P1: texts that are no tuple's, and nothing beside the error.
func TestReadOfNoTuple(t *testing.T) {
	for _, s := range []string{
		"", "@", ":", "#", ":#@:", ":#@:#", "doc", "doc:a", "doc:a#viewer", "doc:a#viewer@", "doc:a#viewer@user", "doc:a#viewer@user:",
		"doc:a@user:b", "doc:a#@user:b", "doc:#viewer@user:b", ":a#viewer@user:b", "doc#viewer@user:b", "a#viewer@user:b", "doc:a#viewer@:b",
		"doc:a#viewer@b", "doc:a#viewer@user:b#", "doc:a#viewer@user#c", "doc:a#viewer@user:#c", "doc:a#viewer@#c",
		"doc:a#viewer@user:b#c#", "doc:a#viewer@user:b#c#d", "doc:a#viewer@user:b@c", "doc:a#viewer@user:b#c@d", "doc:a#viewer@@user:b",
		"doc:a##viewer@user:b", "doc::a#viewer@user:b", "doc:a:b#viewer@user:b", "doc:a#viewer#c@user:b", "doc:a#viewer@user:b:c",
		"@doc:a#viewer@user:b", "doc@a#viewer:user:b", "doc#viewer:a@user:b", "user:b@doc:a#viewer",
		" doc:a#viewer@user:b", "doc:a#viewer@user:b ", "doc:a#viewer@user:b\n", "doc: a#viewer@user:b", "doc:a#viewer@user:b\x00",
		"Doc:a#viewer@user:b", "doc:A#viewer@user:b", "doc:a#Viewer@user:b", "1:a#b@c:d", "a:a#1@c:d", "a:a#b@1:d", "a:a#b@c:d#1",
		"a.b:a#b@c:d", "a:a#b.c@c:d", "a:a#b@c-d:d", "a:a#b@c:d#e.f",
		longName + "z:a#b@c:d", "a:" + longID + "z#b@c:d", "a:a#" + longName + "z@c:d", "a:a#b@" + longName + "z:d", "a:a#b@c:" + longID + "z", "a:a#b@c:d#" + longName + "z",
		strings.Repeat("a", 1<<20), strings.Repeat("@", 1<<20), "a:a#b@c:" + strings.Repeat("d", 1<<20),
	} {
		if x, e := Read(s); x != (api.Tuple{}) || e != api.ErrTupleForm {
			t.Errorf("Read(%.200q) is %q, %d", s, x, e)
		}
	}
}

// P11.1, P1: texts that are no user's, and nothing beside the error.
func TestReadUserOfNoUser(t *testing.T) {
	for _, s := range []string{
		"", ":", "#", ":#", "a", "a:", ":b", "a#c", "a#c:b", "a:#c", ":b#c", "a:b#", "a:b##", "a:b##c", "a:b#c#", "a:b#c#d", "a::b", "a:b:c", "a:b#c:d",
		"a:b@c", "a:b@", "@a:b", "a:b#c@d:e", "a:b#c@d:e#f", " a:b", "a:b ", "a:b\n", "a:b#c\n", "A:b", "a:B", "a:b#C", "1:b", "a:b#1", "a-b:c", "a:b#c-d",
		longName + "z:b", "a:" + longID + "z", "a:b#" + longName + "z", strings.Repeat("a:", 1<<19), "a:b#" + strings.Repeat("c", 1<<20),
	} {
		if u, e := ReadUser(s); u != (api.User{}) || e != api.ErrTupleForm {
			t.Errorf("ReadUser(%.200q) is %q, %d", s, u, e)
		}
	}
}

// P11.1: all texts of few bytes, and each cut, piece twice, byte more and byte turned in those of tuples.
func TestReadOfTurnedTexts(t *testing.T) {
	all := []string{""}
	for from := 0; len(all[from]) < 8; from++ {
		for _, l := range []string{"a", ":", "#", "@"} {
			all = append(all, all[from]+l)
		}
	}
	for _, s := range all {
		holdsText(t, s)
		holdsText(t, "a:a#"+s)
	}
	for _, x := range tuples {
		for at := range len(x.text) + 1 {
			a, b := x.text[:at], x.text[at:]
			holdsText(t, a)
			holdsText(t, b)
			holdsText(t, b+a)
			holdsText(t, a+x.text)
			for turned := range 256 {
				holdsText(t, a+string([]byte{byte(turned)})+b)
				if b != "" {
					holdsText(t, a+string([]byte{byte(turned)})+b[1:])
				}
			}
			if b != "" {
				holdsText(t, a+b[1:])
			}
		}
	}
}

// P11.2, P1: texts that are no key of a tuple, and nothing beside the error.
func TestOfKeyOfNoKey(t *testing.T) {
	key, back := tuples[2].key, tuples[2].back
	for _, s := range []string{
		"", "\x00", "\x00\x00", "f", "f\x00", "f\x00\x00", "r\x00\x00", "a:b#c@d:e#f", "fabcdef",
		key[1:], key[3:], key[:len(key)-1], key[:len(key)-2], key[:len(key)-3], back[1:], back[:len(back)-2],
		key + "\x00", key + "\x00\x00", key + "x", key + "x\x00\x00", back + "\x00\x00", key + key, key + back, "\x00\x00" + key,
		"g" + key[1:], "F" + key[1:], "ff" + key[1:], "fr" + key[1:], "rf" + key[1:], "f\x00\xff" + key[1:], "b" + back[1:], "\x00\xff" + key[1:],
		"\x00\x00\x00\x00\x00\x00\x00\x00\x00\x00\x00\x00\x00\x00", "f\x00\x00\x00\x00\x00\x00\x00\x00\x00\x00\x00\x00\x00\x00",
		"f\x00\x00a\x00\x00b\x00\x00\x00\x00d\x00\x00e\x00\x00f\x00\x00",          // it has no relation
		"r\x00\x00a\x00\x00b\x00\x00c\x00\x00d\x00\x00e\x00\x00\x00\x00",          // nor has this one
		"f\x00\x00a\x00\x00b\x00\xff\x00\x00c\x00\x00d\x00\x00e\x00\x00f\x00\x00", // a part with a nought
		"f\x00\x00A\x00\x00b\x00\x00c\x00\x00d\x00\x00e\x00\x00f\x00\x00",
		"f\x00\x00a\x00\x00b:\x00\x00c\x00\x00d\x00\x00e\x00\x00f\x00\x00",
		"f\x00\x00a.\x00\x00b\x00\x00c\x00\x00d\x00\x00e\x00\x00f\x00\x00",
		"r\x00\x00a\x00\x00b\x00\x00c\x00\x00d.\x00\x00e\x00\x00f\x00\x00",
		"r\x00\x00a\x00\x00\x00\x00c\x00\x00d\x00\x00e\x00\x00f\x00\x00",
		strings.Repeat("f\x00\x00", 1<<18), strings.Repeat("a", 1<<20), strings.Repeat("\x00", 1<<20),
	} {
		if x, b, e := OfKey(s); x != (api.Tuple{}) || b || e != api.ErrTupleForm {
			t.Errorf("OfKey(%.200q) is %q, %v, %d", s, x, b, e)
		}
	}
}

// P11.2: each cut, byte more and byte turned in tuples' keys.
func TestOfKeyOfTurnedKeys(t *testing.T) {
	for _, x := range tuples {
		for _, k := range []string{x.key, x.back} {
			for at := range len(k) + 1 {
				holdsKey(t, k[:at])
				holdsKey(t, k[at:])
				for turned := range 256 {
					holdsKey(t, k[:at]+string([]byte{byte(turned)})+k[at:])
					if at < len(k) {
						holdsKey(t, k[:at]+string([]byte{byte(turned)})+k[at+1:])
					}
				}
				if at < len(k) {
					holdsKey(t, k[:at]+k[at+1:])
				}
			}
		}
	}
}

// P11.2: of tuples that may not be, too.
func TestLess(t *testing.T) {
	base := made("b", "b", "b", "b", "b", "b")
	for i := range 6 {
		for _, x := range []struct {
			text string
			less bool // whether it is ahead of b
		}{
			{"", true}, {"a", true}, {"azzzz", true}, {"B", true}, {"9", true}, {"\x00", true}, {"-", true},
			{"b", false}, {"ba", false}, {"b\x00", false}, {"b_", false}, {"c", false}, {"{", false}, {"é", false}, {"\xff", false},
		} {
			p := six(base)
			p[i] = x.text
			for j := i + 1; j < 6; j++ { // what comes behind tells nothing more
				p[j] = strings.Repeat("a", j%2) + strings.Repeat("z", 1-j%2)
			}
			turned := made(p[0], p[1], p[2], p[3], p[4], p[5])
			if x.text == "b" {
				turned = base
			}
			if got := Less(turned, base); got != x.less {
				t.Errorf("Less(%q, %q) is %v", turned, base, got)
			}
			if got, want := Less(base, turned), !x.less && x.text != "b"; got != want {
				t.Errorf("Less(%q, %q) is %v", base, turned, got)
			}
		}
	}
	if Less(api.Tuple{}, api.Tuple{}) || !Less(api.Tuple{}, base) || Less(base, api.Tuple{}) {
		t.Error("the tuple of nothing")
	}
	if a, b := made("a", "b", "", "", "", ""), made("a", "", "b", "", "", ""); Less(a, b) || !Less(b, a) {
		t.Error("parts that are one text, divided otherwise")
	}
}

// mixed is a tuple of parts that are picked.
func mixed(r *rand.Rand, names, ids, last []string) api.Tuple {
	pick := func(l []string) string { return l[r.Intn(len(l))] }
	return made(pick(names), pick(ids), pick(names), pick(names), pick(ids), pick(last))
}

// P11.2: Less against the words, part by part, of tuples of odd parts.
func TestLessOfMixedTuples(t *testing.T) {
	r := rand.New(rand.NewSource(11))
	for range 50000 {
		few := odd[r.Intn(3):][:2+r.Intn(len(odd)-4)]
		a, b := mixed(r, few, few, few), mixed(r, few, few, few)
		if got, want := Less(a, b), slices.Compare(six(a), six(b)) < 0; got != want {
			t.Fatalf("Less(%q, %q) is %v", a, b, got)
		}
		if Less(a, a) {
			t.Fatalf("%q is ahead of itself", a)
		}
	}
}

// P11.3: keys stand as their tuples do, those by users as these, and none has more than 95 bytes.
func TestKeysStandAsTuplesDo(t *testing.T) {
	names := []string{"a", "a0", "a_", "aa", "ab", "b", "f", "r", longName[:11], longName}
	ids := append([]string{"-", ".", "..", "0", "_", "a-", "a.", longID}, names...)
	last := append([]string{"", ""}, names...)
	r := rand.New(rand.NewSource(12))
	most := 0
	for range 50000 {
		n := 2 + r.Intn(len(names)-1)
		a, b := mixed(r, names[:n], ids[:n], last[:n]), mixed(r, names[:n], ids, last)
		x, e := Key(a)
		y, f := Key(b)
		if e != api.OK || f != api.OK || Less(a, b) != (x < y) || (a == b) != (x == y) {
			t.Fatalf("%q and %q stand otherwise than %q and %q", x, y, a, b)
		}
		v, _ := Back(a)
		w, _ := Back(b)
		if u := append(six(a)[3:], six(a)[:3]...); (slices.Compare(u, append(six(b)[3:], six(b)[:3]...)) < 0) != (v < w) {
			t.Fatalf("%q and %q stand otherwise than the users of %q and %q", v, w, a, b)
		}
		if x >= v {
			t.Fatalf("%q, by an object, isn't ahead of %q", x, v)
		}
		most = max(most, len(x), len(y), len(v), len(w))
	}
	k, _ := Key(made(longName, longID, longName, longName, longID, longName))
	if len(k) != 95 || most > 95 {
		t.Errorf("%d bytes of the longest key, %d of the others", len(k), most)
	}
}

// P11.1 to P11.3: tuples that may be are the same again, whatever they were told as.
func TestTuplesComeBack(t *testing.T) {
	letters := "abcdefghijklmnopqrstuvwxyz0123456789_-."
	r := rand.New(rand.NewSource(13))
	word := func(most, first, of int) string {
		s := []byte{letters[r.Intn(first)]}
		for range r.Intn(most) {
			s = append(s, letters[r.Intn(of)])
		}
		return string(s)
	}
	for range 5000 {
		x := made(word(12, 26, 37), word(16, 39, 39), word(12, 26, 37), word(12, 26, 37), word(16, 39, 39), word(12, 26, 37))
		if r.Intn(2) == 0 {
			x.User.Relation = ""
		}
		if Check(x) != api.OK {
			t.Fatalf("%q may not be", x)
		}
		holdsTuple(t, x)
	}
}
