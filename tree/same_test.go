package tree_test

import (
	"slices"
	"testing"

	"hexapla/api"
	"hexapla/tree"
)

// checkSame holds whether two nodes are the same, in both orders.
func checkSame(t *testing.T, a, b api.Node, want bool) {
	t.Helper()
	if tree.Same(a, b) != want || tree.Same(b, a) != want {
		t.Errorf("%s and %s: not %v", written(a), written(b), want)
	}
}

// changed returns nodes that differ from n in one thing alone.
func changed(n api.Node) []api.Node {
	kind, text, val, more := n, n, n, n
	kind.Kind++
	text.Text += "x"
	val.Val += "x"
	more.Kids = append(slices.Clone(n.Kids), null)
	l := []api.Node{kind, text, val, more}
	if len(n.Kids) > 0 {
		l = append(l, with(n), with(n, n.Kids[1:]...), with(n, n.Kids[:len(n.Kids)-1]...), with(n, append([]api.Node{null}, n.Kids...)...))
	}
	if text.Text != "x" {
		text.Text = n.Text[1:]
		l = append(l, text)
	}
	return l
}

func TestSame(t *testing.T) {
	for i, a := range values {
		for j, b := range values {
			checkSame(t, a, b, i == j)
		}
		for _, b := range changed(a) {
			checkSame(t, a, b, false)
			checkSame(t, list(null, a), list(null, b), false)
		}
	}
	a, b := key("a", null), key("b", null)
	checkSame(t, object(a, b), object(a, b), true)
	checkSame(t, object(a, b), object(b, a), false) // the order counts
	checkSame(t, elem("e", attr("a", ""), attr("b", "")), elem("e", attr("b", ""), attr("a", "")), false)
	checkSame(t, list(null, word), list(word, null), false)
	checkSame(t, list(list(null), null), list(null, list(null)), false)
	checkSame(t, list(list(null, null)), list(list(null), null), false) // what is within what counts
	checkSame(t, attr("a", "b"), attr("b", "a"), false)
	checkSame(t, attr("ab", "c"), attr("a", "bc"), false)
	checkSame(t, number("1e1"), number("10"), false) // in their texts, not in what these mean
}

// TestSameAny holds that nodes need not be trees.
func TestSameAny(t *testing.T) {
	odd := []api.Node{
		{}, {Kind: -1}, {Kind: 99}, {Kind: 256}, {Text: "\xff"}, {Text: "\xfe"}, {Val: "\xff"}, key("a"), key("a", null, null), with(null, null),
		{Kind: api.EndList}, {Kids: []api.Node{{}}}, {Kids: []api.Node{{}, {}}}, {Kids: []api.Node{{Kids: []api.Node{{}}}}}, list(key("a")), attr("", "v"),
	}
	for i, a := range odd {
		for j, b := range odd {
			checkSame(t, a, b, i == j)
			checkSame(t, list(a), list(b), i == j)
		}
		for _, b := range changed(a) {
			checkSame(t, a, b, false)
		}
	}
}

// TestSameKids holds that neither nil nor spare Kids make a difference.
func TestSameKids(t *testing.T) {
	spare := append(make([]api.Node, 0, 5), null, word, scalar)
	checkSame(t, list(), with(list(), []api.Node{}...), true)
	checkSame(t, list(list()), list(api.Node{Kind: api.List, Kids: []api.Node{}}), true)
	checkSame(t, list(list()), list(api.Node{Kind: api.List, Kids: spare[:0]}), true)
	checkSame(t, list(null, word), list(spare[:2]...), true)
	checkSame(t, list(spare...), list(spare[:2]...), false)
}

// TestSameDeep holds that nodes are compared down to 100 levels.
func TestSameDeep(t *testing.T) {
	inKey := func(n api.Node) api.Node { return key("a", n) }
	behind := func(n api.Node) api.Node { return list(null, n) }
	for _, around := range []func(api.Node) api.Node{inList, inKey, inElem, behind} {
		for n := range 100 {
			a := nested(n, around, word)
			checkSame(t, a, nested(n, around, text("x")), true)
			checkSame(t, a, nested(n+1, around, word), false)
			for _, b := range changed(word) {
				checkSame(t, a, nested(n, around, b), false)
			}
		}
	}
	deep := nested(1<<16-1, inList, null)
	tree.Same(deep, deep) // which answers something
}
