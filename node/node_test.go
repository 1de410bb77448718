package node

import (
	"fmt"
	"maps"
	"math"
	"math/rand"
	"slices"
	"strings"
	"testing"

	"lunette/api"
)

// leaf is a leaf of keys, each with the value behind it.
func leaf(pairs ...string) api.Node {
	n := api.Node{Leaf: true}
	for i := 0; i < len(pairs); i += 2 {
		n.Keys, n.Values = append(n.Keys, pairs[i]), append(n.Values, pairs[i+1])
	}
	return n
}

// branch is a branch of keys and children.
func branch(keys []string, kids ...int) api.Node {
	return api.Node{Keys: keys, Kids: kids}
}

// list is some texts.
func list(texts ...string) []string { return texts }

// letters is a text of so many of one letter.
func letters(n int) string { return strings.Repeat("a", n) }

// same is whether two nodes are the same, nil and empty being one.
func same(a, b api.Node) bool {
	return a.Leaf == b.Leaf && slices.Equal(a.Keys, b.Keys) && slices.Equal(a.Values, b.Values) && slices.Equal(a.Kids, b.Kids)
}

// is holds a node that was answered against another one.
func is(t *testing.T, what string, got, want api.Node) {
	t.Helper()
	if !same(got, want) {
		t.Errorf("%s: %#v, not %#v", what, got, want)
	}
}

// checks holds Check's and Cells's answer of a node that may not be.
func checks(t *testing.T, what string, n api.Node, want api.Errno) {
	t.Helper()
	if e := Check(n); e != want {
		t.Errorf("Check of %s: %d, not %d", what, e, want)
	}
	l, e := Cells(n)
	if e != want || want != api.OK && l != nil {
		t.Errorf("Cells of %s: %q, %d, not %d", what, l, e, want)
	}
}

// refuses holds Of's answer of cells that are no node's.
func refuses(t *testing.T, what string, leaf bool, cells ...string) {
	t.Helper()
	n, e := Of(leaf, cells)
	if e != api.ErrNodeForm || n.Leaf || n.Keys != nil || n.Values != nil || n.Kids != nil {
		t.Errorf("Of %v, %s: %#v, %d", leaf, what, n, e)
	}
}

// rising is so many keys that rise, of four bytes each.
func rising(count int) []string {
	var keys []string
	for i := range count {
		keys = append(keys, fmt.Sprintf("k%03d", i))
	}
	return keys
}

// manyLeaf is a leaf of so many keys, each value of another length.
func manyLeaf(count int) api.Node {
	n := api.Node{Leaf: true, Keys: rising(count)}
	for i := range count {
		n.Values = append(n.Values, letters(i%101))
	}
	return n
}

// manyBranch is a branch of so many keys.
func manyBranch(count int) api.Node {
	n := api.Node{Keys: rising(count), Kids: []int{7}}
	for i := range count {
		n.Kids = append(n.Kids, i+1)
	}
	return n
}

// nodes are nodes that may be, with their cells: written by hand.
var nodes = []struct {
	n     api.Node
	cells []string
}{
	{leaf(), nil},
	{leaf("", ""), list("\x00")},
	{leaf("", "x"), list("\x00x")},
	{leaf("a", "x", "b", ""), list("\x01ax", "\x01b")},
	{leaf("a", "1", "c", "", "e", "3"), list("\x01a1", "\x01c", "\x01e3")},
	{leaf("", "", "\x00", "\x00", "\x00\x00", "é", "\xff", "\xff\xff"), list("\x00", "\x01\x00\x00", "\x02\x00\x00é", "\x01\xff\xff\xff")},
	{leaf("B", "", "a", "", "aB", "", "ab", ""), list("\x01B", "\x01a", "\x02aB", "\x02ab")},
	{leaf(letters(99), letters(99), letters(100), letters(100)), list("\x63"+letters(198), "\x64"+letters(200))},
	{branch(nil, 1), list("\x00\x00\x00\x01")},
	{branch(nil, 1<<32-1), list("\xff\xff\xff\xff")},
	{branch(nil, 0x01020304), list("\x01\x02\x03\x04")},
	{branch(list(""), 5, 5), list("\x00\x00\x00\x05", "\x00\x00\x00\x00\x05")},
	{branch(list("m"), 0x80000000, 0x00ff0000), list("\x80\x00\x00\x00", "\x01m\x00\xff\x00\x00")},
	{branch(list("c", "e"), 1, 2, 1<<32-1), list("\x00\x00\x00\x01", "\x01c\x00\x00\x00\x02", "\x01e\xff\xff\xff\xff")},
	{branch(list("", "\xff", "\xffa", "\xff\xff"), 256, 255, 4, 3, 256), list("\x00\x00\x01\x00", "\x00\x00\x00\x00\xff", "\x01\xff\x00\x00\x00\x04", "\x02\xffa\x00\x00\x00\x03", "\x02\xff\xff\x00\x00\x01\x00")},
	{branch(list(letters(99), letters(100)), 1, 2, 3), list("\x00\x00\x00\x01", "\x63"+letters(99)+"\x00\x00\x00\x02", "\x64"+letters(100)+"\x00\x00\x00\x03")},
}

// The chapter's example.
func TestExample(t *testing.T) {
	n := api.Node{Leaf: true, Keys: []string{"a", "b"}, Values: []string{"x", ""}}
	l, e := Cells(n)
	if e != api.OK || !slices.Equal(l, []string{"\x01ax", "\x01b"}) {
		t.Errorf("%q, %d", l, e)
	}
	if at, ok := Find(n, "aa"); at != 1 || ok {
		t.Error(at, ok)
	}
}

// P5.1, P5.4: a node as cells, cells as a node, and each behind the other.
func TestCellsAndOf(t *testing.T) {
	for _, x := range nodes {
		checks(t, fmt.Sprintf("%#v", x.n), x.n, api.OK)
		l, e := Cells(x.n)
		if e != api.OK || !slices.Equal(l, x.cells) {
			t.Errorf("Cells of %#v: %q, %d, not %q", x.n, l, e, x.cells)
		}
		n, e := Of(x.n.Leaf, x.cells)
		if e != api.OK {
			t.Errorf("Of %q: %d", x.cells, e)
		}
		is(t, fmt.Sprintf("Of %q", x.cells), n, x.n)
	}
}

// P5.1: cells however much they take, and nodes of many keys.
func TestCellsOfMany(t *testing.T) {
	for _, n := range []api.Node{manyLeaf(1000), manyBranch(1000)} {
		l, e := Cells(n)
		if want := 1000 + len(n.Kids)/1001; e != api.OK || len(l) != want {
			t.Fatalf("%d cells, %d, not %d", len(l), e, want)
		}
		m, e := Of(n.Leaf, l)
		if e != api.OK {
			t.Error(e)
		}
		is(t, "many", m, n)
	}
}

// P5.1: a node without keys, nil or empty, is one.
func TestNilAndEmpty(t *testing.T) {
	for _, none := range [][]string{nil, {}} {
		for _, kids := range [][]int{nil, {}} {
			n := api.Node{Leaf: true, Keys: none, Values: none, Kids: kids}
			checks(t, "an empty leaf", n, api.OK)
			if l, _ := Cells(n); len(l) != 0 {
				t.Errorf("%q", l)
			}
		}
		checks(t, "a branch of one child", api.Node{Keys: none, Values: none, Kids: []int{1}}, api.OK)
		n, e := Of(true, none)
		if e != api.OK {
			t.Error(e)
		}
		is(t, "Of nothing", n, leaf())
		refuses(t, "of nothing", false, none...)
	}
}

// P5.1: each way in which a node may not be.
func TestNoNodes(t *testing.T) {
	for what, n := range map[string]api.Node{
		"a leaf without its value":              {Leaf: true, Keys: list("a")},
		"a leaf with a value less":              {Leaf: true, Keys: list("a", "b"), Values: list("")},
		"a leaf with a value more":              {Leaf: true, Keys: list("a"), Values: list("", "")},
		"a leaf with values alone":              {Leaf: true, Values: list("")},
		"a leaf with a child":                   {Leaf: true, Keys: list("a"), Values: list(""), Kids: []int{1}},
		"a leaf with children":                  {Leaf: true, Keys: list("a"), Values: list(""), Kids: []int{1, 2}},
		"a leaf with a child alone":             {Leaf: true, Kids: []int{1}},
		"a leaf as a branch":                    {Leaf: true, Keys: list("a"), Kids: []int{1, 2}},
		"a branch without anything":             {},
		"a branch without children":             {Keys: list("a")},
		"a branch with as many children":        {Keys: list("a"), Kids: []int{1}},
		"a branch with two children more":       {Keys: list("a"), Kids: []int{1, 2, 3}},
		"a branch with two children alone":      {Kids: []int{1, 2}},
		"a branch with a value":                 {Keys: list("a"), Values: list(""), Kids: []int{1, 2}},
		"a branch of one child with a value":    {Values: list(""), Kids: []int{1}},
		"a branch as a leaf":                    {Keys: list("a"), Values: list("")},
		"a leaf whose keys fall":                leaf("b", "", "a", ""),
		"a leaf whose last key falls":           leaf("a", "", "c", "", "b", ""),
		"a leaf whose first key is too high":    leaf("c", "", "a", "", "b", ""),
		"a leaf with a key twice":               leaf("a", "", "a", ""),
		"a leaf with its last key twice":        leaf("a", "", "b", "", "b", ""),
		"a leaf with the empty key twice":       leaf("", "", "", ""),
		"a leaf with a key ahead of its start":  leaf("ab", "", "a", ""),
		"a leaf with bytes that fall":           leaf("\xff", "", "a", ""),
		"a leaf with small ahead of great ones": leaf("a", "", "B", ""),
		"a branch whose keys fall":              branch(list("b", "a"), 1, 2, 3),
		"a branch with a key twice":             branch(list("a", "a"), 1, 2, 3),
	} {
		checks(t, what, n, api.ErrNodeForm)
	}
}

// P5.1: a child is from 1 to 2^32 - 1, wherever it stands.
func TestKids(t *testing.T) {
	for kid, want := range map[int]api.Errno{
		math.MinInt: 50, -1 << 32: 50, -1<<32 + 1: 50, -1: 50, 0: 50, 1: 0, 2: 0, 1<<31 - 1: 0, 1 << 31: 0, 1<<32 - 1: 0, 1 << 32: 50, 1<<32 + 1: 50, math.MaxInt: 50,
	} {
		checks(t, fmt.Sprint("a branch of child ", kid), branch(nil, kid), want)
		for at := range 3 {
			n := branch(list("a", "b"), 5, 6, 7)
			n.Kids[at] = kid
			checks(t, fmt.Sprint("child ", at, " of ", kid), n, want)
		}
	}
}

// P5.1: keys and values of each length, wherever they stand.
func TestLengths(t *testing.T) {
	for size, want := range map[int]api.Errno{0: 0, 1: 0, 99: 0, 100: 0, 101: 51, 127: 51, 128: 51, 255: 51, 256: 51, 257: 51, 300: 51, 356: 51} {
		text := letters(size)
		for what, n := range map[string]api.Node{
			"a leaf's key":          leaf(text, ""),
			"a leaf's value":        leaf("a", text),
			"a leaf's first value":  leaf("a", text, "b", "", "c", ""),
			"a leaf's last value":   leaf("a", "", "b", "", "c", text),
			"a branch's key":        branch(list(text), 1, 2),
			"a leaf's last key":     leaf("", "", "Z", "", "a"+text[:max(size-1, 0)], ""),
			"a branch's last key":   branch(list("", "Z", "a"+text[:max(size-1, 0)]), 1, 2, 3, 4),
			"a leaf's first key":    leaf(text, "", "b", ""),
			"a branch's first key":  branch(list(text, "b"), 1, 2, 3),
			"a leaf's key and more": leaf(text, text),
		} {
			checks(t, fmt.Sprint(what, " of ", size), n, want)
		}
	}
	bytes := strings.Repeat("é", 50)
	checks(t, "a key of fifty letters", leaf(bytes, bytes), api.OK)
	checks(t, "a key of one byte more", leaf(bytes+"a", bytes), api.ErrNodeLong)
	checks(t, "a value of one byte more", leaf(bytes, bytes+"a"), api.ErrNodeLong)
}

// P5.1, P1: too long comes ahead of what may not be.
func TestFirstError(t *testing.T) {
	long := letters(101)
	for what, n := range map[string]api.Node{
		"a leaf of a long key without a value":      {Leaf: true, Keys: list(long)},
		"a leaf of a long value without a key":      {Leaf: true, Values: list(long)},
		"a leaf of a long value more":               {Leaf: true, Keys: list("a"), Values: list("", long)},
		"a leaf of a long key with a child":         {Leaf: true, Keys: list(long), Values: list(""), Kids: []int{0}},
		"a leaf of a long key twice":                leaf(long, "", long, ""),
		"a leaf whose keys fall to a long one":      leaf("b", "", long, ""),
		"a leaf whose keys fall, with a long value": leaf("b", "", "a", long),
		"a branch of a long key without a child":    {Keys: list(long)},
		"a branch of a long key and the child 0":    branch(list(long), 0, 0),
		"a branch of a long key twice":              branch(list(long, long), 1, 2, 3),
		"a branch with a long value":                {Keys: list("a"), Values: list(long), Kids: []int{1, 2}},
		"a branch of a long value alone":            {Values: list(long)},
	} {
		checks(t, what, n, api.ErrNodeLong)
	}
}

// P5.1: cells that are no leaf's.
func TestNoLeafsCells(t *testing.T) {
	for what, cells := range map[string][]string{
		"an empty cell":                      {""},
		"an empty cell ahead":                {"", "\x01a"},
		"an empty cell behind":               {"\x01a", ""},
		"a key beyond its cell":              {"\x02a"},
		"a key beyond, of nothing":           {"\x01"},
		"a key beyond, by a letter":          {"\x03ab"},
		"a key of 255 beyond":                {"\xff" + letters(254)},
		"a key beyond, behind another one":   {"\x01a", "\x05bcd"},
		"keys that fall":                     {"\x01b", "\x01a"},
		"keys that fall, with values":        {"\x01bx", "\x01ax"},
		"a key twice":                        {"\x01a", "\x01a"},
		"a key twice, with other values":     {"\x01ax", "\x01ay"},
		"the empty key twice":                {"\x00", "\x00"},
		"a key of 101 bytes":                 {"\x65" + letters(101)},
		"a key of 128 bytes":                 {"\x80" + letters(128)},
		"a key of 255 bytes":                 {"\xff" + letters(255)},
		"a key of 255 bytes, with a value":   {"\xff" + letters(256)},
		"a value of 101 bytes":               {"\x01a" + letters(101)},
		"a value of 256 bytes":               {"\x00" + letters(256)},
		"a value of 101 bytes behind others": {"\x01a", "\x01b", "\x01c" + letters(101)},
	} {
		refuses(t, what, true, cells...)
	}
}

// P5.1: cells that are no branch's.
func TestNoBranchsCells(t *testing.T) {
	one := "\x00\x00\x00\x01"
	for what, cells := range map[string][]string{
		"no cells":                         nil,
		"an empty first child":             {""},
		"a first child of one byte":        {"\x01"},
		"a first child of three bytes":     {"abc"},
		"a first child of five bytes":      {"\x00\x00\x00\x00\x01"},
		"a first child of eight bytes":     {one + one},
		"the first child 0":                {"\x00\x00\x00\x00"},
		"the first child 0 ahead of more":  {"\x00\x00\x00\x00", "\x01a" + one},
		"no first child":                   {"\x01a" + one},
		"two first children":               {one, one},
		"an empty cell":                    {one, ""},
		"an empty cell behind":             {one, "\x01a" + one, ""},
		"a key without a child":            {one, "\x01a"},
		"a child of three bytes":           {one, "\x01a\x00\x00\x01"},
		"a child of five bytes":            {one, "\x01a\x00\x00\x00\x00\x01"},
		"a child of eight bytes":           {one, "\x01a" + one + one},
		"a last child of three bytes":      {one, "\x01a" + one, "\x01b\x00\x00\x01"},
		"a child 0":                        {one, "\x01a\x00\x00\x00\x00"},
		"a last child 0":                   {one, "\x01a" + one, "\x01b\x00\x00\x00\x00"},
		"a key beyond its cell":            {one, "\x06a" + one},
		"a key that takes its child":       {one, "\x05a" + one},
		"a key of 255 beyond":              {one, "\xff" + letters(254)},
		"keys that fall":                   {one, "\x01b" + one, "\x01a" + one},
		"a key twice":                      {one, "\x01a" + one, "\x01a\x00\x00\x00\x02"},
		"a key of 101 bytes":               {one, "\x65" + letters(101) + one},
		"a key of 255 bytes":               {one, "\xff" + letters(255) + one},
		"a key of 101 bytes behind others": {one, "\x01a" + one, "\x65" + letters(101) + one},
	} {
		refuses(t, what, false, cells...)
	}
}

// P5.1: of the other kind than they were laid: refused, or read as what they then tell.
func TestOfOther(t *testing.T) {
	for _, x := range []struct{ n, want api.Node }{
		{leaf("abc", ""), branch(nil, 0x03616263)},
		{leaf("a", "xy"), branch(nil, 0x01617879)},
		{leaf("", "\x00\x00\x00"), leaf()}, // the child 0
		{leaf("", "abc"), branch(nil, 0x00616263)},
		{leaf("ab", "c", "d", "wxyz"), branch(list("d"), 0x02616263, 0x7778797a)},
		{leaf(), leaf()},
		{leaf("a", "x", "b", ""), leaf()},
		{leaf("abc", "", "d", "xyz"), leaf()},
		{branch(nil, 1), leaf("", "\x00\x00\x01")},
		{branch(nil, 0x03616263), leaf("abc", "")},
		{branch(nil, 0x04616263), leaf()},
		{branch(list("a"), 1, 2), leaf("", "\x00\x00\x01", "a", "\x00\x00\x00\x02")},
		{branch(list(""), 1, 2), leaf()}, // the empty key twice
		{branch(list("z"), 0x02616263, 2), leaf("ab", "c", "z", "\x00\x00\x00\x02")},
		{branch(list("aa"), 0x02616263, 2), leaf()}, // keys that fall
	} {
		l, e := Cells(x.n)
		if e != api.OK {
			t.Fatalf("Cells of %#v: %d", x.n, e)
		}
		if same(x.want, leaf()) {
			refuses(t, fmt.Sprintf("%q", l), !x.n.Leaf, l...)
			continue
		}
		n, e := Of(!x.n.Leaf, l)
		if e != api.OK {
			t.Errorf("Of %q: %d", l, e)
		}
		is(t, fmt.Sprintf("Of %q", l), n, x.want)
	}
}

// P5.1: of a leaf's empty cells, read as a branch: refused, too.
func TestOfNoCellsAsBranch(t *testing.T) {
	l, _ := Cells(leaf())
	refuses(t, "an empty leaf's cells", false, l...)
}

// P5.1: what a node takes is what its cells take: 2 bytes each, and its own.
func TestRoom(t *testing.T) {
	all := []api.Node{manyLeaf(100), manyBranch(100)}
	for _, x := range nodes {
		all = append(all, x.n)
	}
	for _, n := range all {
		l, e := Cells(n)
		if e != api.OK {
			t.Fatal(e)
		}
		want := 0
		for _, c := range l {
			want += 2 + len(c)
		}
		if got := Room(n); got != want {
			t.Errorf("Room of %#v: %d, not %d", n, got, want)
		}
	}
}

// P5.1: what a node takes, in numbers: also of nodes that may not be.
func TestRoomByHand(t *testing.T) {
	for want, all := range map[int][]api.Node{
		0:   {leaf()},
		2:   {{}},
		3:   {leaf("", "")},
		4:   {leaf("a", ""), {Leaf: true, Keys: list("a")}, {Leaf: true, Kids: []int{0}}},
		5:   {{Leaf: true, Keys: list(""), Values: list("b", "c")}, {Values: list("b", "", "cd")}, {Keys: list("")}, {Leaf: true, Values: list("b", "cdef")}},
		6:   {branch(nil, 1), branch(nil, -1), branch(nil, 1<<32), {Values: list("wxyz")}},
		8:   {leaf("a", "", "a", ""), leaf("b", "", "a", ""), {Leaf: true, Kids: []int{1, 2}}},
		9:   {{Leaf: true, Keys: list("a"), Values: list("b"), Kids: []int{-5}}},
		14:  {leaf("a", "1", "c", "", "e", "3")},
		15:  {{Keys: list("a"), Values: list("b"), Kids: []int{1, 1}}},
		18:  {branch(nil, 0, 0, 0, 0)},
		22:  {branch(list("c", "e"), 1, 2, 3)},
		304: {leaf(letters(101), letters(200))},
		514: {leaf(letters(255), letters(256))},
		516: {branch(list(letters(511)))},
	} {
		for _, n := range all {
			if got := Room(n); got != want {
				t.Errorf("Room of %#v: %d, not %d", n, got, want)
			}
		}
	}
}

// between is each key, and texts ahead of it and behind it.
func between(keys []string) []string {
	texts := list("", "\x00", "\xff", "\xff\xff", letters(100), letters(101), letters(300))
	for _, k := range keys {
		texts = append(texts, k, k+"\x00", k+"\xff", k+"a")
		if k != "" {
			end := len(k) - 1
			texts = append(texts, k[:end], k[:end]+string([]byte{k[end] - 1, 255}), k[:end]+string([]byte{k[end] + 1}))
		}
	}
	return texts
}

// finds is where a key is in a node, by the chapter's words: counted one by one.
func finds(n api.Node, key string) (int, bool) {
	at := 0
	for _, k := range n.Keys {
		if k < key || !n.Leaf && k == key {
			at++
		}
	}
	return at, slices.Contains(n.Keys, key)
}

// P5.2: Find of each key, of texts ahead of all, between any two, and behind all.
func TestFind(t *testing.T) {
	all := []api.Node{manyLeaf(64), manyBranch(65)}
	for _, x := range nodes {
		all = append(all, x.n)
	}
	for _, n := range all {
		for _, key := range between(n.Keys) {
			at, ok := Find(n, key)
			if want, is := finds(n, key); at != want || ok != is {
				t.Errorf("Find of %q in %#v: %d, %v, not %d, %v", key, n, at, ok, want, is)
			}
		}
	}
}

// P5.2: Find, in numbers.
func TestFindByHand(t *testing.T) {
	l, b := leaf("b", "", "d", "", "f", ""), branch(list("b", "d", "f"), 1, 2, 3, 4)
	for _, x := range []struct {
		key      string
		at, kid  int
		isInBoth bool
	}{
		{"", 0, 0, false}, {"a", 0, 0, false}, {"az", 0, 0, false}, {"b", 0, 1, true}, {"b\x00", 1, 1, false}, {"c", 1, 1, false},
		{"d", 1, 2, true}, {"e", 2, 2, false}, {"f", 2, 3, true}, {"fa", 3, 3, false}, {"g", 3, 3, false}, {"\xff", 3, 3, false}, {"F", 0, 0, false},
	} {
		if at, ok := Find(l, x.key); at != x.at || ok != x.isInBoth {
			t.Errorf("in a leaf %q: %d, %v", x.key, at, ok)
		}
		if at, ok := Find(b, x.key); at != x.kid || ok != x.isInBoth {
			t.Errorf("in a branch %q: %d, %v", x.key, at, ok)
		}
	}
	for _, key := range list("", "a") {
		if at, ok := Find(leaf(), key); at != 0 || ok {
			t.Error("in an empty leaf", at, ok)
		}
		if at, ok := Find(branch(nil, 9), key); at != 0 || ok {
			t.Error("in a branch of one child", at, ok)
		}
	}
}

// P5.2: Put of keys that are there, and that aren't.
func TestPut(t *testing.T) {
	n := leaf("b", "1", "d", "2")
	for _, x := range []struct {
		n          api.Node
		key, value string
		want       api.Node
	}{
		{leaf(), "a", "x", leaf("a", "x")},
		{leaf(), "", "", leaf("", "")},
		{n, "", "x", leaf("", "x", "b", "1", "d", "2")},
		{n, "a", "x", leaf("a", "x", "b", "1", "d", "2")},
		{n, "b", "x", leaf("b", "x", "d", "2")},
		{n, "b", "", leaf("b", "", "d", "2")},
		{n, "b", "1", n},
		{n, "b\x00", "x", leaf("b", "1", "b\x00", "x", "d", "2")},
		{n, "c", "", leaf("b", "1", "c", "", "d", "2")},
		{n, "d", "x", leaf("b", "1", "d", "x")},
		{n, "e", "x", leaf("b", "1", "d", "2", "e", "x")},
		{n, "\xff", "x", leaf("b", "1", "d", "2", "\xff", "x")},
		{n, letters(100), letters(100), leaf(letters(100), letters(100), "b", "1", "d", "2")},
		{n, letters(101), "x", leaf(letters(101), "x", "b", "1", "d", "2")},
		{n, "b", letters(101), leaf("b", letters(101), "d", "2")},
		{branch(list("b"), 1, 2), "b", "x", branch(list("b"), 1, 2)},
		{branch(list("b"), 1, 2), "a", "x", branch(list("b"), 1, 2)},
		{branch(list("b"), 1, 2), "c", "", branch(list("b"), 1, 2)},
		{branch(nil, 1), "", "", branch(nil, 1)},
	} {
		is(t, fmt.Sprintf("Put of %q, %q", x.key, x.value), Put(x.n, x.key, x.value), x.want)
	}
	is(t, "what it was put to", n, leaf("b", "1", "d", "2"))
}

// P5.2: Drop of keys that are there, and that aren't.
func TestDrop(t *testing.T) {
	n := leaf("b", "1", "d", "2", "f", "3")
	for _, x := range []struct {
		n    api.Node
		key  string
		want api.Node
	}{
		{leaf(), "", leaf()},
		{leaf(), "a", leaf()},
		{leaf("a", "x"), "a", leaf()},
		{leaf("", "x"), "", leaf()},
		{leaf("", "x", "a", "y"), "", leaf("a", "y")},
		{n, "b", leaf("d", "2", "f", "3")},
		{n, "d", leaf("b", "1", "f", "3")},
		{n, "f", leaf("b", "1", "d", "2")},
		{n, "", n},
		{n, "a", n},
		{n, "c", n},
		{n, "ba", n},
		{n, "g", n},
		{n, "\xff", n},
		{n, letters(300), n},
		{branch(list("b", "d"), 1, 2, 3), "b", branch(list("b", "d"), 1, 2, 3)},
		{branch(list("b", "d"), 1, 2, 3), "d", branch(list("b", "d"), 1, 2, 3)},
		{branch(list("b", "d"), 1, 2, 3), "c", branch(list("b", "d"), 1, 2, 3)},
		{branch(nil, 1), "", branch(nil, 1)},
	} {
		is(t, fmt.Sprintf("Drop of %q from %#v", x.key, x.n), Drop(x.n, x.key), x.want)
	}
	is(t, "what it was dropped from", n, leaf("b", "1", "d", "2", "f", "3"))
}

// P5.2: a leaf, put to and dropped from at random, is a map of its keys.
func TestPutAndDropAsMap(t *testing.T) {
	r := rand.New(rand.NewSource(5))
	n, model := leaf(), map[string]string{}
	for step := range 3000 {
		key, value := letters(r.Intn(4))+string([]byte{byte('a' + r.Intn(8))}), fmt.Sprint(step)
		if r.Intn(2) == 0 {
			n, model[key] = Put(n, key, value), value
		} else {
			n = Drop(n, key)
			delete(model, key)
		}
		want := api.Node{Leaf: true, Keys: slices.Sorted(maps.Keys(model))}
		for _, k := range want.Keys {
			want.Values = append(want.Values, model[k])
		}
		if !same(n, want) {
			t.Fatalf("step %d: %#v, not %#v", step, n, want)
		}
	}
}

// P5.3: Split of no keys, one, two, three and more, by hand.
func TestSplitByHand(t *testing.T) {
	for _, x := range []struct {
		n, a api.Node
		key  string
		b    api.Node
	}{
		{leaf(), leaf(), "", leaf()},
		{leaf("a", "1"), leaf("a", "1"), "", leaf()},
		{leaf("a", "1", "b", "2"), leaf("a", "1"), "b", leaf("b", "2")},
		{leaf("a", "1", "b", "", "c", "3"), leaf("a", "1"), "b", leaf("b", "", "c", "3")},
		{leaf("a", "1", "b", "2", "c", "3", "d", "4"), leaf("a", "1", "b", "2"), "c", leaf("c", "3", "d", "4")},
		{leaf("a", "1", "b", "2", "c", "3", "d", "4", "e", "5"), leaf("a", "1", "b", "2"), "c", leaf("c", "3", "d", "4", "e", "5")},
		{leaf("", "1", "b", "2"), leaf("", "1"), "b", leaf("b", "2")},
		{branch(nil, 1), branch(nil, 1), "", leaf()},
		{branch(list("a"), 1, 2), branch(list("a"), 1, 2), "", leaf()},
		{branch(list("a", "b"), 1, 2, 3), branch(list("a"), 1, 2), "b", branch(nil, 3)},
		{branch(list("a", "b", "c"), 1, 2, 3, 4), branch(list("a"), 1, 2), "b", branch(list("c"), 3, 4)},
		{branch(list("a", "b", "c", "d"), 1, 2, 3, 4, 5), branch(list("a", "b"), 1, 2, 3), "c", branch(list("d"), 4, 5)},
		{branch(list("a", "b", "c", "d", "e"), 1, 2, 3, 4, 5, 6), branch(list("a", "b"), 1, 2, 3), "c", branch(list("d", "e"), 4, 5, 6)},
	} {
		a, key, b := Split(x.n)
		if key != x.key {
			t.Errorf("Split of %#v: %q, not %q", x.n, key, x.key)
		}
		is(t, "its first", a, x.a)
		is(t, "its second", b, x.b)
	}
}

// P5.3: of fewer than two keys, also what may not be stays as it is.
func TestSplitOfOneThatMayNotBe(t *testing.T) {
	for _, n := range []api.Node{
		{}, {Leaf: true, Kids: []int{1, 2}}, {Leaf: true, Keys: list("a")}, {Leaf: true, Values: list("a", "b", "c")},
		{Keys: list("a"), Values: list("x", "y"), Kids: []int{-1, 0, 1 << 40}}, {Kids: []int{4, 5, 6}}, leaf(letters(300), letters(300)),
	} {
		a, key, b := Split(n)
		if key != "" {
			t.Errorf("%q", key)
		}
		is(t, "its first", a, n)
		is(t, "its second", b, leaf())
	}
}

// P5.3, P5.4: of many keys: half of them, and the rest; both may be; and joined they are what was split.
func TestSplitAndJoin(t *testing.T) {
	for count := range 40 {
		for _, n := range []api.Node{manyLeaf(count), manyBranch(count)} {
			a, key, b := Split(n)
			is(t, fmt.Sprint("joined, of ", count), Join(a, key, b), n)
			if count < 2 {
				continue
			}
			half := count / 2
			if a.Leaf != n.Leaf || b.Leaf != n.Leaf || key != n.Keys[half] || len(a.Keys) != half || Check(a) != api.OK || Check(b) != api.OK {
				t.Errorf("of %d: %#v, %q, %#v", count, a, key, b)
			}
			if n.Leaf && len(b.Keys) != count-half || !n.Leaf && (len(b.Keys) != count-half-1 || len(a.Kids) != half+1) {
				t.Errorf("of %d: %d, %d keys", count, len(a.Keys), len(b.Keys))
			}
		}
	}
}

// P5.3: Join of two leaves, of two branches, and of one of each.
func TestJoin(t *testing.T) {
	l, m := leaf("a", "1", "b", ""), leaf("c", "3")
	b, c := branch(list("a", "b"), 1, 2, 3), branch(list("x"), 4, 5)
	for _, x := range []struct {
		a    api.Node
		key  string
		b    api.Node
		want api.Node
	}{
		{l, "c", m, leaf("a", "1", "b", "", "c", "3")},
		{l, "zzz", m, leaf("a", "1", "b", "", "c", "3")},
		{m, "", l, leaf("c", "3", "a", "1", "b", "")},
		{l, "a", l, leaf("a", "1", "b", "", "a", "1", "b", "")},
		{l, "", leaf(), l},
		{leaf(), "", l, l},
		{leaf(), "x", leaf(), leaf()},
		{b, "m", c, branch(list("a", "b", "m", "x"), 1, 2, 3, 4, 5)},
		{b, "", c, branch(list("a", "b", "", "x"), 1, 2, 3, 4, 5)},
		{c, "m", b, branch(list("x", "m", "a", "b"), 4, 5, 1, 2, 3)},
		{branch(nil, 1), "m", branch(nil, 2), branch(list("m"), 1, 2)},
		{b, "m", branch(nil, 9), branch(list("a", "b", "m"), 1, 2, 3, 9)},
		{branch(nil, 9), letters(101), b, branch(list(letters(101), "a", "b"), 9, 1, 2, 3)},
		{l, "m", b, l},
		{b, "m", l, b},
		{leaf(), "m", b, leaf()},
		{b, "m", leaf(), b},
		{api.Node{}, "m", l, api.Node{}},
	} {
		is(t, fmt.Sprintf("Join of %#v, %q, %#v", x.a, x.key, x.b), Join(x.a, x.key, x.b), x.want)
	}
}

// P5.3: Join of nodes that may not be: what is told beside is left out, or stays with the first.
func TestJoinOfNodesThatMayNotBe(t *testing.T) {
	l := api.Node{Leaf: true, Keys: list("b"), Values: list("1", "2"), Kids: []int{7}}
	m := api.Node{Leaf: true, Keys: list("a", "a"), Kids: []int{0, -1}}
	b := api.Node{Keys: list("b"), Values: list("1", "2"), Kids: []int{7}}
	c := api.Node{Keys: list("a", "a"), Values: list("3"), Kids: []int{0, -1, 1 << 40, 5}}
	is(t, "two leaves", Join(l, "k", m), api.Node{Leaf: true, Keys: list("b", "a", "a"), Values: list("1", "2")})
	is(t, "two leaves", Join(m, "k", l), api.Node{Leaf: true, Keys: list("a", "a", "b"), Values: list("1", "2")})
	is(t, "two branches", Join(b, "k", c), api.Node{Keys: list("b", "k", "a", "a"), Kids: []int{7, 0, -1, 1 << 40, 5}})
	is(t, "two branches", Join(c, "k", b), api.Node{Keys: list("a", "a", "k", "b"), Kids: []int{0, -1, 1 << 40, 5, 7}})
	is(t, "two branches of nothing", Join(api.Node{}, "k", api.Node{}), api.Node{Keys: list("k")})
	is(t, "a leaf and a branch", Join(l, "k", b), l)
	is(t, "a branch and a leaf", Join(c, "k", m), c)
}

// odd are nodes of all kinds, most of which may not be.
func odd() []api.Node {
	var all []api.Node
	for _, keys := range [][]string{nil, {""}, {"a"}, {"a", "b"}, {"b", "a"}, {"a", "a"}, {"", "a", "c"}, {"c", "a", "c", "b"}, {letters(101)}, {letters(256), ""}} {
		for _, values := range [][]string{nil, {""}, {"1", "2"}, {"1", "2", "3"}, {"", "", "", "", "5"}, {letters(101)}, {"", letters(256)}} {
			for _, kids := range [][]int{nil, {1}, {0, 1}, {1, 2}, {1, 2, 1<<32 - 1}, {1, 2, 3, 4}, {-1, 1 << 32, 5, math.MinInt, math.MaxInt, 9}} {
				all = append(all, api.Node{Leaf: true, Keys: keys, Values: values, Kids: kids}, api.Node{Keys: keys, Values: values, Kids: kids})
			}
		}
	}
	return all
}

// checked is Check's answer by the chapter's words.
func checked(n api.Node) api.Errno {
	for _, k := range n.Keys {
		if len(k) > 100 {
			return 51
		}
	}
	for _, v := range n.Values {
		if len(v) > 100 {
			return 51
		}
	}
	once := slices.Compact(slices.Sorted(slices.Values(n.Keys)))
	counts := len(n.Values) == len(n.Keys) && len(n.Kids) == 0
	if !n.Leaf {
		counts = len(n.Values) == 0 && len(n.Kids) == len(n.Keys)+1
		for _, k := range n.Kids {
			counts = counts && uint64(k-1) < 1<<32-1
		}
	}
	if !counts || !slices.Equal(once, n.Keys) {
		return 50
	}
	return 0
}

// P1, P5.1: of all nodes, each call ends, Check is as the words say, and Cells answers nothing beside an error.
func TestOddNodes(t *testing.T) {
	for _, n := range odd() {
		checks(t, fmt.Sprintf("%#v", n), n, checked(n))
		for _, key := range list("", "a", "aa", "b", "c", "d", letters(101), letters(256)) {
			if at, _ := Find(n, key); at < 0 || at > len(n.Keys) {
				t.Errorf("Find of %q in %#v: %d", key, n, at)
			}
			p, d := Put(n, key, "x"), Drop(n, key)
			if !n.Leaf {
				is(t, "Put to a branch", p, n)
				is(t, "Drop from a branch", d, n)
			}
		}
		room := 3*len(n.Keys) + len(strings.Join(n.Keys, "")) + len(strings.Join(n.Values, "")) + 4*len(n.Kids)
		if !n.Leaf {
			room += 2
		}
		if got := Room(n); got != room {
			t.Errorf("Room of %#v: %d, not %d", n, got, room)
		}
		a, key, b := Split(n)
		if half := len(n.Keys) / 2; len(n.Keys) > 1 && (key != n.Keys[half] || !slices.Equal(a.Keys, n.Keys[:half])) {
			t.Errorf("Split of %#v: %#v, %q, %#v", n, a, key, b)
		}
	}
}

// P1, P5.3: Join of any two nodes is as the words say.
func TestOddJoins(t *testing.T) {
	all := odd()
	for _, a := range all {
		for _, b := range all {
			want := a
			if a.Leaf && b.Leaf {
				want = api.Node{Leaf: true, Keys: slices.Concat(a.Keys, b.Keys), Values: slices.Concat(a.Values, b.Values)}
			} else if !a.Leaf && !b.Leaf {
				want = api.Node{Keys: slices.Concat(a.Keys, list("k"), b.Keys), Kids: slices.Concat(a.Kids, b.Kids)}
			}
			if got := Join(a, "k", b); !same(got, want) {
				t.Fatalf("Join of %#v, %#v: %#v", a, b, got)
			}
		}
	}
}

// P1, P5.1, P5.4: of cells of any bytes, Of answers a node whose cells they are, or nothing.
func TestOddCells(t *testing.T) {
	r := rand.New(rand.NewSource(51))
	good := 0
	for range 60000 {
		cells := make([]string, r.Intn(4))
		for i := range cells {
			b := make([]byte, r.Intn(7))
			for j := range b {
				b[j] = byte(r.Intn(4))
			}
			cells[i] = string(b)
		}
		isLeaf := r.Intn(2) == 0
		n, e := Of(isLeaf, cells)
		if e != api.OK {
			if e != api.ErrNodeForm || !same(n, api.Node{}) {
				t.Fatalf("Of %q: %#v, %d", cells, n, e)
			}
			continue
		}
		good++
		l, e := Cells(n)
		if e != api.OK || !slices.Equal(l, cells) || n.Leaf != isLeaf {
			t.Fatalf("Of %q: %#v, with the cells %q, %d", cells, n, l, e)
		}
	}
	if good < 1000 {
		t.Error("too few were a node's", good)
	}
}

// P5.4: nodes that may be, made at random, are themselves again.
func TestSelfAgain(t *testing.T) {
	r := rand.New(rand.NewSource(54))
	for range 2000 {
		n := api.Node{Leaf: r.Intn(2) == 0}
		for range r.Intn(12) {
			b := make([]byte, r.Intn(5))
			r.Read(b)
			n.Keys = append(n.Keys, string(b))
		}
		slices.Sort(n.Keys)
		n.Keys = slices.Compact(n.Keys)
		if !n.Leaf {
			n.Kids = append(n.Kids, 1+r.Intn(1<<32-1))
		}
		for range n.Keys {
			if n.Leaf {
				b := make([]byte, r.Intn(101))
				r.Read(b)
				n.Values = append(n.Values, string(b))
			} else {
				n.Kids = append(n.Kids, 1+r.Intn(1<<32-1))
			}
		}
		l, e := Cells(n)
		if e != api.OK {
			t.Fatalf("Cells of %#v: %d", n, e)
		}
		m, e := Of(n.Leaf, l)
		if e != api.OK || !same(m, n) {
			t.Fatalf("%#v, %d, not %#v", m, e, n)
		}
		is(t, "joined", Join(Split(n)), n)
	}
}

// acts are the calls that are handed lists, with the lists that they answer; each by its words of two nodes.
var acts = map[string]func(a, b api.Node) []api.Node{
	"Check": func(a, b api.Node) []api.Node { Check(a); return nil },
	"Room":  func(a, b api.Node) []api.Node { Room(a); return nil },
	"Find":  func(a, b api.Node) []api.Node { Find(a, "c"); return nil },
	"Cells": func(a, b api.Node) []api.Node {
		l, _ := Cells(a)
		return []api.Node{{Keys: l}}
	},
	"Of": func(a, b api.Node) []api.Node {
		n, _ := Of(true, a.Values)
		return []api.Node{n}
	},
	"Of a branch": func(a, b api.Node) []api.Node {
		n, _ := Of(false, a.Values)
		return []api.Node{n}
	},
	"Put ahead":      func(a, b api.Node) []api.Node { return []api.Node{Put(a, "", "x")} },
	"Put between":    func(a, b api.Node) []api.Node { return []api.Node{Put(a, "cc", "x")} },
	"Put behind":     func(a, b api.Node) []api.Node { return []api.Node{Put(a, "z", "x")} },
	"Put in place":   func(a, b api.Node) []api.Node { return []api.Node{Put(a, "c", "x")} },
	"Drop the first": func(a, b api.Node) []api.Node { return []api.Node{Drop(a, "a")} },
	"Drop":           func(a, b api.Node) []api.Node { return []api.Node{Drop(a, "c")} },
	"Drop the last":  func(a, b api.Node) []api.Node { return []api.Node{Drop(a, "d")} },
	"Drop of none":   func(a, b api.Node) []api.Node { return []api.Node{Drop(a, "cc")} },
	"Join":           func(a, b api.Node) []api.Node { return []api.Node{Join(a, "m", b)} },
	"Join with none": func(a, b api.Node) []api.Node { return []api.Node{Join(a, "m", api.Node{Leaf: a.Leaf})} },
	"Join of none":   func(a, b api.Node) []api.Node { return []api.Node{Join(api.Node{Leaf: a.Leaf}, "m", a)} },
	"Join of others": func(a, b api.Node) []api.Node { return []api.Node{Join(a, "m", api.Node{Leaf: !a.Leaf})} },
	"Split": func(a, b api.Node) []api.Node {
		x, _, y := Split(a)
		return []api.Node{x, y}
	},
}

// roomy is a list with spare room behind it, and the whole of it.
func roomy[T any](list []T, mark T) (short, whole []T) {
	whole = slices.Clone(list)
	for range 3 {
		whole = append(whole, mark)
	}
	return whole[:len(list)], whole
}

// handed is a node with spare room behind its lists, what tells whether all that is as it was, and what turns all of it.
func handed(n api.Node) (m api.Node, asItWas func() bool, turn func()) {
	keys, allKeys := roomy(n.Keys, "mark")
	values, allValues := roomy(n.Values, "mark")
	kids, allKids := roomy(n.Kids, 99)
	was := clone(api.Node{Keys: allKeys, Values: allValues, Kids: allKids})
	asItWas = func() bool { return same(api.Node{Keys: allKeys, Values: allValues, Kids: allKids}, was) }
	turn = func() { spoil(api.Node{Keys: allKeys, Values: allValues, Kids: allKids}) }
	return api.Node{Leaf: n.Leaf, Keys: keys, Values: values, Kids: kids}, asItWas, turn
}

// clone is a node in memory of its own.
func clone(n api.Node) api.Node {
	return api.Node{Leaf: n.Leaf, Keys: slices.Clone(n.Keys), Values: slices.Clone(n.Values), Kids: slices.Clone(n.Kids)}
}

// spoil turns all items of a node's lists, with their spare room.
func spoil(n api.Node) {
	for _, l := range [][]string{n.Keys, n.Values} {
		for i := range l[:cap(l)] {
			l[:cap(l)][i] = "spoilt"
		}
	}
	for i := range n.Kids[:cap(n.Kids)] {
		n.Kids[:cap(n.Kids)][i] = 77
	}
}

// LANGUAGE.md's fifth: what is answered hangs on no capacity, also of nodes that may not be.
func TestSpareRoomTellsNothing(t *testing.T) {
	for _, n := range odd() {
		m, _, _ := handed(n)
		for what, act := range acts {
			want, got := act(n, n), act(m, m)
			for i := range got {
				is(t, what+", with spare room", got[i], want[i])
			}
		}
	}
}

// DOC.md's rules: what is handed in is neither changed nor kept, what is handed out is new memory.
func TestMemory(t *testing.T) {
	as, bs := leaf("a", "\x01a1", "c", "\x01c", "d", "\x01e3"), leaf("x", "1", "y", "")
	cells := leaf("a", "\x00\x00\x00\x01", "c", "\x01c\x00\x00\x00\x02", "d", "\x01e\xff\xff\xff\xff")
	for what, act := range acts {
		for _, x := range [][2]api.Node{
			{as, bs}, {cells, bs}, {leaf("c", "1"), bs}, {leaf(), leaf()}, {as, leaf()},
			{branch(list("a", "c", "d"), 1, 2, 3, 4), branch(list("x"), 5, 6)}, {branch(list("c"), 1, 2), branch(nil, 3)}, {branch(nil, 1), branch(nil, 2)},
			{api.Node{Leaf: true, Keys: list("a"), Values: list("x"), Kids: []int{4}}, bs}, {api.Node{Keys: list("a"), Values: list("x"), Kids: []int{4}}, bs},
		} {
			a, aIs, turnA := handed(x[0])
			b, bIs, turnB := handed(x[1])
			got := act(a, b)
			if !aIs() || !bIs() {
				t.Errorf("%s of %#v changes what it is handed", what, x)
			}
			var want []api.Node
			for _, n := range got {
				want = append(want, clone(n))
			}
			turnA()
			turnB()
			for i := range got {
				is(t, what+", behind a change of what it was handed", got[i], want[i])
			}
			apart(t, what, x, act)
		}
	}
}

// apart turns each list that a call answers, which changes neither what it was handed nor the other lists.
func apart(t *testing.T, what string, x [2]api.Node, act func(a, b api.Node) []api.Node) {
	t.Helper()
	a, aIs, _ := handed(x[0])
	b, bIs, _ := handed(x[1])
	got := act(a, b)
	for i := range got {
		var want []api.Node
		for _, n := range got {
			want = append(want, clone(n))
		}
		spoil(api.Node{Keys: got[i].Keys})
		got[i].Keys, want[i].Keys = nil, nil
		for j := range got {
			is(t, what+", behind a change of another list", got[j], want[j])
		}
		spoil(got[i])
		got[i], want[i] = api.Node{}, api.Node{}
		for j := range got {
			is(t, what+", behind a change of another node", got[j], want[j])
		}
	}
	if !aIs() || !bIs() {
		t.Errorf("what %s answers is what it was handed", what)
	}
}
