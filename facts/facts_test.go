package facts

import (
	"math"
	"math/rand"
	"slices"
	"strconv"
	"strings"
	"testing"

	"lunette/api"
	"lunette/tuple"
)

var (
	longName = strings.Repeat("z", api.MaxName)
	longID   = strings.Repeat("z", api.MaxID)
)

// made is a tuple of its six parts.
func made(kind, id, relation, userKind, userID, userRelation string) api.Tuple {
	return api.Tuple{Kind: kind, ID: id, Relation: relation, User: api.User{Kind: userKind, ID: userID, Relation: userRelation}}
}

// six is the six parts of a tuple.
func six(t api.Tuple) []string {
	return []string{t.Kind, t.ID, t.Relation, t.User.Kind, t.User.ID, t.User.Relation}
}

// read is the tuples of texts.
func read(t *testing.T, texts ...string) []api.Tuple {
	t.Helper()
	var l []api.Tuple
	for _, s := range texts {
		x, e := tuple.Read(s)
		if e != api.OK {
			t.Fatalf("%q is no tuple's text", s)
		}
		l = append(l, x)
	}
	return l
}

// show is tuples as one text.
func show(l []api.Tuple) string {
	var texts []string
	for _, x := range l {
		s, e := tuple.Show(x)
		if e != api.OK {
			s = strconv.Quote(strings.Join(six(x), "|"))
		}
		texts = append(texts, s)
	}
	return strings.Join(texts, " ")
}

// showUsers is users as one text.
func showUsers(l []api.User) string {
	var texts []string
	for _, u := range l {
		s, e := tuple.ShowUser(u)
		if e != api.OK {
			s = strconv.Quote(strings.Join([]string{u.Kind, u.ID, u.Relation}, "|"))
		}
		texts = append(texts, s)
	}
	return strings.Join(texts, " ")
}

// wholeTexts is a set, in its order: kinds, objects' names and relations of which one begins another one, so that their texts would stand otherwise.
var wholeTexts = []string{
	"a:b#c@d:e",
	"a:b#c@d:e#f",
	"a:b#c@d:e#f0",
	"a:b#c@d:e-",
	"a:b#c@d0:e",
	"a:b#c0@a:b",
	"a:b-#a@a:b",
	"a:b.#a@a:b#c",
	"a0:b#c@d:e",
	"doc:a#owner@user:a",
	"doc:a#viewer@group:g#member",
	"doc:a#viewer@user:b",
	"doc:b#viewer@doc:z",
	"group:g#member@user:b",
}

// whole is the set of wholeTexts, put in another order, some twice.
func whole(t *testing.T) *Facts {
	t.Helper()
	l := read(t, wholeTexts...)
	rand.New(rand.NewSource(1)).Shuffle(len(l), func(i, j int) { l[i], l[j] = l[j], l[i] })
	return New(slices.Concat(l, l[:5], l[3:9]))
}

// P13.1: all tuples, each once, in their order.
func TestAll(t *testing.T) {
	if got, want := show(whole(t).All()), strings.Join(wholeTexts, " "); got != want {
		t.Errorf("All() is %s, not %s", got, want)
	}
	if l := New(nil).All(); l != nil {
		t.Errorf("All() of nothing is %v", l)
	}
	if l := New([]api.Tuple{}).All(); l != nil {
		t.Errorf("All() of nothing is %v", l)
	}
}

// Tuples that may not be: one part of each is wrong.
var wrong = []api.Tuple{
	{},
	made("", "b", "c", "d", "e", "f"),
	made("a", "", "c", "d", "e", "f"),
	made("a", "b", "", "d", "e", "f"),
	made("a", "b", "c", "", "e", "f"),
	made("a", "b", "c", "d", "", "f"),
	made("a", "b", "c", "", "", ""),
	made("A", "b", "c", "d", "e", "f"),
	made("1", "b", "c", "d", "e", "f"),
	made("a", "B", "c", "d", "e", "f"),
	made("a", "b", "c.", "d", "e", "f"),
	made("a", "b", "c", "d-", "e", "f"),
	made("a", "b", "c", "d", "e#", "f"),
	made("a", "b", "c", "d", "e", "F"),
	made("a", "b", "c", "d", "e", "1"),
	made("a\x00", "b", "c", "d", "e", "f"),
	made("a", "b", "c", "d", "\xff", ""),
	made(longName+"z", "b", "c", "d", "e", "f"),
	made("a", longID+"z", "c", "d", "e", "f"),
	made("a", "b", longName+"z", "d", "e", "f"),
	made("a", "b", "c", longName+"z", "e", "f"),
	made("a", "b", "c", "d", longID+"z", "f"),
	made("a", "b", "c", "d", "e", longName+"z"),
	made("a", strings.Repeat("b", 1<<20), "c", "d", "e", "f"),
}

// P13.1: tuples that may not be are in no set, and change none.
func TestTuplesThatMayNotBe(t *testing.T) {
	good := made(longName, longID, longName, longName, longID, longName)
	f := New(slices.Concat(wrong, []api.Tuple{good}, wrong))
	for _, x := range wrong {
		if f.Put(x) || f.Has(x) || f.Drop(x) {
			t.Errorf("%.200q is there", six(x))
		}
	}
	if l := f.All(); !slices.Equal(l, []api.Tuple{good}) {
		t.Errorf("All() is %s", show(l))
	}
	if l := f.Find(api.Filter{}, math.MaxInt); !slices.Equal(l, []api.Tuple{good}) {
		t.Errorf("Find of all is %s", show(l))
	}
	if u := f.Users("a", "b", "c"); u != nil {
		t.Errorf("users of tuples that may not be: %v", u)
	}
	if l := New(wrong).All(); l != nil {
		t.Errorf("a set of %v", l)
	}
}

// P13.1: each part tells tuples apart; what is put is there till it is dropped.
func TestPutAndDrop(t *testing.T) {
	l := []api.Tuple{made("a", "b", "c", "d", "e", "f"), made("a", "b", "c", "d", "e", "")}
	for i := range 6 {
		p := []string{"a", "b", "c", "d", "e", "f"}
		p[i] = "x"
		l = append(l, made(p[0], p[1], p[2], p[3], p[4], p[5]))
	}
	f := New(nil)
	for i, x := range l {
		if f.Has(x) || f.Drop(x) {
			t.Errorf("%s was there ahead of being put", show(l[i:i+1]))
		}
		if !f.Put(x) || f.Put(x) || !f.Has(x) {
			t.Errorf("%s isn't put, or is put twice", show(l[i:i+1]))
		}
		if got := len(f.All()); got != i+1 {
			t.Errorf("%d tuples, not %d", got, i+1)
		}
	}
	for i, x := range l {
		if !f.Has(x) || !f.Drop(x) || f.Drop(x) || f.Has(x) {
			t.Errorf("%s isn't dropped, or is dropped twice", show(l[i:i+1]))
		}
		if got := len(f.All()); got != len(l)-i-1 {
			t.Errorf("%d tuples, not %d", got, len(l)-i-1)
		}
	}
	if f.All() != nil || f.People() != nil || f.Objects("a") != nil || f.Objects("d") != nil || f.Users("a", "b", "c") != nil {
		t.Error("something is left")
	}
	if !f.Put(l[0]) || !slices.Equal(f.All(), l[:1]) {
		t.Error("what was dropped isn't put again")
	}
}

// P13.2: the users of one relation to one object, in order of their parts.
func TestUsers(t *testing.T) {
	f := whole(t)
	for _, x := range []struct{ kind, id, relation, want string }{
		{"doc", "a", "viewer", "group:g#member user:b"},
		{"doc", "a", "owner", "user:a"},
		{"doc", "b", "viewer", "doc:z"},
		{"group", "g", "member", "user:b"},
		{"a", "b", "c", "d:e d:e#f d:e#f0 d:e- d0:e"},
		{"a", "b", "c0", "a:b"},
		{"a0", "b", "c", "d:e"},
		{"a", "b.", "a", "a:b#c"},
		{"a", "b", "a", ""},
		{"d", "e", "f", ""}, // those who have it are users, and are told of nobody
		{"doc", "c", "viewer", ""},
		{"doc", "b", "owner", ""},
		{"group", "a", "viewer", ""},
		{"doc", "a", "", ""}, // what is empty is no tuple's: it isn't a filter
		{"doc", "", "viewer", ""},
		{"", "a", "viewer", ""},
		{"", "", "", ""},
		{"Doc", "a", "viewer", ""},
		{"doc:a", "", "viewer", ""},
		{strings.Repeat("doc", 1<<18), "a\x00", "\xff", ""},
	} {
		got := f.Users(x.kind, x.id, x.relation)
		if showUsers(got) != x.want || x.want == "" && got != nil {
			t.Errorf("Users(%.20q, %q, %q) is %s, not %s", x.kind, x.id, x.relation, showUsers(got), x.want)
		}
	}
}

// P13.2: the example of the chapter.
func TestUsersOfTheExample(t *testing.T) {
	f := New(read(t, "doc:a#viewer@user:b", "doc:a#viewer@user:a"))
	if got := showUsers(f.Users("doc", "a", "viewer")); got != "user:a user:b" {
		t.Errorf("Users is %s", got)
	}
}

// P13.2: the tuples that a filter means, as far as it tells something.
func TestFind(t *testing.T) {
	f := whole(t)
	user := func(kind, id, relation string) api.Filter {
		return api.Filter{User: api.User{Kind: kind, ID: id, Relation: relation}}
	}
	for _, x := range []struct {
		filter api.Filter
		want   string
	}{
		{api.Filter{}, strings.Join(wholeTexts, " ")},
		{api.Filter{Kind: "doc"}, "doc:a#owner@user:a doc:a#viewer@group:g#member doc:a#viewer@user:b doc:b#viewer@doc:z"},
		{api.Filter{ID: "b-"}, "a:b-#a@a:b"},
		{api.Filter{Kind: "doc", ID: "b"}, "doc:b#viewer@doc:z"},
		{api.Filter{Relation: "member"}, "group:g#member@user:b"},
		{api.Filter{Kind: "doc", ID: "a", Relation: "viewer"}, "doc:a#viewer@group:g#member doc:a#viewer@user:b"},
		{user("user", "", ""), "doc:a#owner@user:a doc:a#viewer@user:b group:g#member@user:b"},
		{user("", "g", ""), "doc:a#viewer@group:g#member"},
		{user("", "", "member"), "doc:a#viewer@group:g#member"},
		{user("", "", "c"), "a:b.#a@a:b#c"},
		{user("a", "b", ""), "a:b#c0@a:b a:b-#a@a:b a:b.#a@a:b#c"},
		{user("d", "e", ""), "a:b#c@d:e a:b#c@d:e#f a:b#c@d:e#f0 a0:b#c@d:e"},
		{user("d", "e", "f"), "a:b#c@d:e#f"},
		{api.Filter{Kind: "a", ID: "b", Relation: "c", User: api.User{Kind: "d", ID: "e", Relation: "f0"}}, "a:b#c@d:e#f0"},
		{api.Filter{Kind: "a", User: api.User{Kind: "d", ID: "e"}}, "a:b#c@d:e a:b#c@d:e#f a:b#c@d:e#f0"},
		{api.Filter{Kind: "do"}, ""},
		{api.Filter{Kind: "docs"}, ""},
		{api.Filter{Kind: "user"}, ""}, // a user's kind, and no object's
		{api.Filter{ID: "B"}, ""},
		{api.Filter{Relation: "b"}, ""},
		{user("a0", "", ""), ""},
		{user("", "b#c", ""), ""},
		{user("", "", "viewer"), ""},
		{user("group", "g", "viewer"), ""},
		{api.Filter{Kind: "doc", ID: "a", Relation: "member"}, ""},
		{api.Filter{Kind: "\x00"}, ""},
		{api.Filter{ID: strings.Repeat("a", 1<<20)}, ""},
	} {
		holdsFind(t, f, x.filter, x.want)
	}
}

// holdsFind holds what is found, and the first ones of it, against a text.
func holdsFind(t *testing.T, f *Facts, x api.Filter, want string) {
	t.Helper()
	all := f.Find(x, math.MaxInt)
	if show(all) != want || want == "" && all != nil {
		t.Errorf("Find(%.200v) is %s, not %s", x, show(all), want)
	}
	for most := range len(all) + 3 {
		got := f.Find(x, most)
		if !slices.Equal(got, all[:min(most, len(all))]) || len(got) == 0 && got != nil {
			t.Errorf("Find(%.200v, %d) is %s", x, most, show(got))
		}
	}
	for _, most := range []int{-1, -2, math.MinInt} {
		if got := f.Find(x, most); got != nil {
			t.Errorf("Find(%.200v, %d) is %s", x, most, show(got))
		}
	}
}

// P13.2: names of a kind's objects, as objects and as users (with a relation, too), each once.
func TestObjects(t *testing.T) {
	f := whole(t)
	for _, x := range []struct{ kind, want string }{
		{"doc", "a b z"},
		{"group", "g"},
		{"user", "a b"},
		{"a", "b b- b."},
		{"a0", "b"},
		{"d", "e e-"},
		{"d0", "e"},
		{"do", ""},
		{"docs", ""},
		{"viewer", ""},
		{"", ""},
		{"DOC", ""},
		{strings.Repeat("a", 1<<20), ""},
	} {
		got := f.Objects(x.kind)
		if strings.Join(got, " ") != x.want || x.want == "" && got != nil {
			t.Errorf("Objects(%.20q) is %q, not %s", x.kind, got, x.want)
		}
	}
	all := New(read(t, "x:z#r@x:9", "x:_#r@x:-#r", "x:a.b#r@x:.", "x:a#r@x:a", "x:a#s@x:z#r", "y:x#r@y:y"))
	if got := strings.Join(all.Objects("x"), " "); got != "- . 9 _ a a.b z" {
		t.Errorf("Objects are %s", got)
	}
}

// P13.2: each user once, in order of their parts; objects are none.
func TestPeople(t *testing.T) {
	if got, want := showUsers(whole(t).People()), "a:b a:b#c d:e d:e#f d:e#f0 d:e- d0:e doc:z group:g#member user:a user:b"; got != want {
		t.Errorf("People() is %s, not %s", got, want)
	}
	if l := New(nil).People(); l != nil {
		t.Errorf("People() of nothing is %v", l)
	}
}

// A list is another set: its tuples, and nothing else, gone over whenever something is asked.
type list []api.Tuple

// sorted is some of a list's tuples, in order of their parts.
func (l list) sorted(is func(x api.Tuple) bool) []api.Tuple {
	var some []api.Tuple
	for _, x := range l {
		if is(x) {
			some = append(some, x)
		}
	}
	slices.SortFunc(some, func(a, b api.Tuple) int { return slices.Compare(six(a), six(b)) })
	return some
}

// find is the tuples of which each part that a filter tells is the same.
func (l list) find(x api.Filter, most int) []api.Tuple {
	told := six(api.Tuple{Kind: x.Kind, ID: x.ID, Relation: x.Relation, User: x.User})
	all := l.sorted(func(x api.Tuple) bool {
		for i, part := range six(x) {
			if told[i] != "" && told[i] != part {
				return false
			}
		}
		return true
	})
	return all[:max(0, min(most, len(all)))]
}

// users is the users of some tuples, each once, in order of their parts.
func (l list) users(is func(x api.Tuple) bool) []api.User {
	var users []api.User
	for _, x := range l {
		if is(x) && !slices.Contains(users, x.User) {
			users = append(users, x.User)
		}
	}
	slices.SortFunc(users, func(a, b api.User) int {
		return slices.Compare([]string{a.Kind, a.ID, a.Relation}, []string{b.Kind, b.ID, b.Relation})
	})
	return users
}

// objects is the names of a kind's objects and users.
func (l list) objects(kind string) []string {
	var names []string
	for _, x := range l {
		if x.Kind == kind {
			names = append(names, x.ID)
		}
		if x.User.Kind == kind {
			names = append(names, x.User.ID)
		}
	}
	slices.Sort(names)
	return slices.Compact(names)
}

// holds holds a set against a list, whatever is asked of it by parts that are picked.
func holds(t *testing.T, f *Facts, l list, pick func() api.Tuple) {
	t.Helper()
	every := func(api.Tuple) bool { return true }
	if got, want := f.All(), l.sorted(every); !slices.Equal(got, want) {
		t.Fatalf("All() is %s, not %s", show(got), show(want))
	}
	if got, want := f.People(), l.users(every); !slices.Equal(got, want) {
		t.Fatalf("People() is %s, not %s", showUsers(got), showUsers(want))
	}
	x := pick()
	if got, want := f.Has(x), slices.Contains(l, x); got != want {
		t.Fatalf("Has(%q) is %v", six(x), got)
	}
	if got, want := f.Objects(x.Kind), l.objects(x.Kind); !slices.Equal(got, want) {
		t.Fatalf("Objects(%q) is %q, not %q", x.Kind, got, want)
	}
	got, want := f.Users(x.Kind, x.ID, x.Relation), l.users(func(y api.Tuple) bool {
		return y.Kind == x.Kind && y.ID == x.ID && y.Relation == x.Relation
	})
	if !slices.Equal(got, want) {
		t.Fatalf("Users(%q) is %s, not %s", six(x)[:3], showUsers(got), showUsers(want))
	}
}

// holdsFilter holds what a filter finds against a list.
func holdsFilter(t *testing.T, f *Facts, l list, x api.Filter, most int) {
	t.Helper()
	if got, want := f.Find(x, most), l.find(x, most); !slices.Equal(got, want) {
		t.Fatalf("Find(%q, %d) is %s, not %s", x, most, show(got), show(want))
	}
}

// P13.1, P13.2: sets to which tuples are put, and from which they are dropped, against a list; whatever a set was made of.
func TestMixedSets(t *testing.T) {
	r := rand.New(rand.NewSource(13))
	words := []string{"a", "b", "a0", "a_", "aa", "r"}
	pickOf := func(l []string) string { return l[r.Intn(len(l))] }
	for range 100 {
		names := words[:1+r.Intn(len(words))]
		ids := append([]string{"-", ".", "0"}, names...)
		last := append([]string{"", "", "A", "a."}, names...)
		pick := func() api.Tuple {
			return made(pickOf(names), pickOf(ids), pickOf(names), pickOf(names), pickOf(ids), pickOf(last))
		}
		filter := func() api.Filter {
			p := six(pick())
			for i := range p {
				if r.Intn(3) > 0 {
					p[i] = ""
				}
			}
			return api.Filter{Kind: p[0], ID: p[1], Relation: p[2], User: api.User{Kind: p[3], ID: p[4], Relation: p[5]}}
		}
		var l list
		var first []api.Tuple
		put := func(x api.Tuple) bool {
			if tuple.Check(x) != api.OK || slices.Contains(l, x) {
				return false
			}
			l = append(l, x)
			return true
		}
		for range r.Intn(20) {
			first = append(first, pick())
			put(first[len(first)-1])
		}
		f := New(first)
		holds(t, f, l, pick)
		for range 100 {
			x := pick()
			if len(l) > 0 && r.Intn(2) == 0 {
				x = l[r.Intn(len(l))]
			}
			if r.Intn(5) < 2 {
				if got, want := f.Put(x), put(x); got != want {
					t.Fatalf("Put(%q) is %v", six(x), got)
				}
			} else {
				at := slices.Index(l, x)
				if got := f.Drop(x); got != (at >= 0) {
					t.Fatalf("Drop(%q) is %v", six(x), got)
				}
				if at >= 0 {
					l = slices.Delete(l, at, at+1)
				}
			}
			holds(t, f, l, pick)
			holdsFilter(t, f, l, filter(), r.Intn(12)-1)
			holdsFilter(t, f, l, filter(), math.MaxInt)
		}
	}
}

// P13.1: sets know nothing of one another, nor of the list that they were made of.
func TestSetsAreTheirOwn(t *testing.T) {
	x := read(t, "a:a#a@a:a", "b:b#b@b:b", "c:c#c@c:c", "d:d#d@d:d", "e:e#e@e:e")
	l := slices.Clone(x)
	f, g := New(l[:3:4]), New(l[:3])
	if !slices.Equal(l, x) {
		t.Errorf("the list is %s", show(l))
	}
	clear(l)
	f.Put(x[4])
	g.Drop(x[0])
	if !slices.Equal(l, make([]api.Tuple, 5)) {
		t.Errorf("the list is %s", show(l))
	}
	if got, want := f.All(), []api.Tuple{x[0], x[1], x[2], x[4]}; !slices.Equal(got, want) {
		t.Errorf("one set is %s", show(got))
	}
	if got, want := g.All(), x[1:3]; !slices.Equal(got, want) {
		t.Errorf("the other one is %s", show(got))
	}
}

// filled is a list whose room, to its end, is all one thing.
func filled[T any](l []T, x T) {
	l = l[:cap(l)]
	for i := range l {
		l[i] = x
	}
}

// What is answered is new memory: turned, it changes no set and no other answer, and no set changes it.
func TestAnswersAreNewMemory(t *testing.T) {
	f := whole(t)
	type answers struct {
		all, some, found []api.Tuple
		users, people    []api.User
		names            []string
	}
	ask := func() answers {
		return answers{
			f.All(), f.Find(api.Filter{}, 5), f.Find(api.Filter{Kind: "doc"}, 100),
			f.Users("doc", "a", "viewer"), f.People(), f.Objects("doc"),
		}
	}
	same := func(a, b answers) bool {
		return slices.Equal(a.all, b.all) && slices.Equal(a.some, b.some) && slices.Equal(a.found, b.found) &&
			slices.Equal(a.users, b.users) && slices.Equal(a.people, b.people) && slices.Equal(a.names, b.names)
	}
	want, turned := ask(), ask()
	filled(turned.all, api.Tuple{})
	filled(turned.some, api.Tuple{})
	filled(turned.found, api.Tuple{})
	filled(turned.users, api.User{})
	filled(turned.people, api.User{})
	filled(turned.names, "")
	if again := ask(); !same(again, want) {
		t.Errorf("turned answers turn others: %v", again)
	}
	kept := ask()
	for _, x := range f.All() {
		f.Drop(x)
	}
	if f.All() != nil || !same(kept, want) {
		t.Errorf("a set that is turned turns answers: %v", kept)
	}
}

// P13.1, P13.2: many tuples; each relation's users are told without all others being gone over.
func TestManyTuples(t *testing.T) {
	const objects = 1 << 16
	var l []api.Tuple
	for i := range objects {
		id := strconv.Itoa(i)
		l = append(l, made("doc", id, "viewer", "user", id, ""))
	}
	for i := range objects {
		l = append(l, made("doc", "0", "viewer", "group", strconv.Itoa(i), "member"))
	}
	f := New(l)
	for i := range objects {
		id := strconv.Itoa(i)
		want := 1
		if i == 0 {
			want += objects
		}
		u := f.Users("doc", id, "viewer")
		if len(u) != want || u[want-1] != (api.User{Kind: "user", ID: id}) {
			t.Fatalf("%d users of %s", len(u), id)
		}
	}
	all := f.All()
	if len(all) != 2*objects || !slices.IsSortedFunc(all, func(a, b api.Tuple) int { return slices.Compare(six(a), six(b)) }) {
		t.Errorf("%d tuples, or in another order", len(all))
	}
	if n := len(f.People()); n != 2*objects {
		t.Errorf("%d people", n)
	}
	if names := f.Objects("doc"); len(names) != objects || !slices.IsSorted(names) {
		t.Errorf("%d objects, or in another order", len(names))
	}
	if found := f.Find(api.Filter{User: api.User{Kind: "group"}}, 1<<30); len(found) != objects {
		t.Errorf("%d groups' tuples", len(found))
	}
	for _, x := range l {
		if !f.Drop(x) {
			t.Fatalf("%q wasn't there", six(x))
		}
	}
	if f.All() != nil || f.Users("doc", "0", "viewer") != nil || len(f.groups) != 0 {
		t.Error("something is left")
	}
}
