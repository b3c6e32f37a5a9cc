package tree_test

import (
	"strconv"
	"strings"
	"testing"

	"hexapla/api"
	"hexapla/events"
	"hexapla/tree"
	"hexapla/trees"
)

// Nodes that may stand in a tree, a Bool among them for all scalars that are no
// Text.
var (
	null   = api.Node{Kind: api.Null}
	scalar = api.Node{Kind: api.Bool, Text: "true"}
	word   = text("x")
)

func text(s string) api.Node { return api.Node{Kind: api.Text, Text: s} }

func number(s string) api.Node { return api.Node{Kind: api.Number, Text: s} }

func list(kids ...api.Node) api.Node { return api.Node{Kind: api.List, Kids: kids} }

func object(kids ...api.Node) api.Node { return api.Node{Kind: api.Map, Kids: kids} }

func key(s string, kids ...api.Node) api.Node { return api.Node{Kind: api.Key, Text: s, Kids: kids} }

func elem(name string, kids ...api.Node) api.Node {
	return api.Node{Kind: api.Elem, Text: name, Kids: kids}
}

func attr(name, val string) api.Node { return api.Node{Kind: api.Attr, Text: name, Val: val} }

// with returns n with these Kids in place of its own.
func with(n api.Node, kids ...api.Node) api.Node {
	n.Kids = kids
	return n
}

// fields returns n fields, k0 and so on.
func fields(n int) []api.Node {
	var l []api.Node
	for i := range n {
		l = append(l, key("k"+strconv.Itoa(i), scalar))
	}
	return l
}

// attrs returns n attributes, k0 and so on.
func attrs(n int) []api.Node {
	var l []api.Node
	for i := range n {
		l = append(l, attr("k"+strconv.Itoa(i), "v"))
	}
	return l
}

// nested returns inner within n nodes, each of which around makes.
func nested(n int, around func(api.Node) api.Node, inner api.Node) api.Node {
	for range n {
		inner = around(inner)
	}
	return inner
}

func inList(n api.Node) api.Node { return list(n) }

func inMap(n api.Node) api.Node { return object(key("a", n)) }

func inElem(n api.Node) api.Node { return elem("e", n) }

// written writes a node, the same only for the same nodes.
func written(n api.Node) string { return trees.Written(n) }

func writtenEvent(x api.Event) string {
	return strconv.Itoa(x.Kind) + strconv.Quote(x.Text) + strconv.Quote(x.Val)
}

// writtenEvents writes events, the same only for the same ones.
func writtenEvents(l []api.Event) string {
	var b strings.Builder
	for _, x := range l {
		b.WriteString(writtenEvent(x))
	}
	return b.String()
}

// checkMay holds the error of May and of Walk, or OK.
func checkMay(t *testing.T, n api.Node, want api.Errno) {
	t.Helper()
	before := written(n)
	if e := tree.May(n); e != want {
		t.Errorf("May %s: %v, not %v", written(n), e, want)
	}
	l, e := tree.Walk(n)
	if e != want || want != api.OK && len(l) > 0 {
		t.Errorf("Walk %s: %v %v, not %v", written(n), l, e, want)
	}
	if i, e := events.Whole(l); want == api.OK && e != api.OK {
		t.Errorf("Walk %s: %v: %v at %d", written(n), l, e, i)
	}
	if written(n) != before {
		t.Errorf("%s became %s", before, written(n))
	}
}

// checkNode holds a node that was returned with an error, or with OK.
func checkNode(t *testing.T, n api.Node, e api.Errno, want api.Node, wantErr api.Errno) {
	t.Helper()
	if written(n) != written(want) || e != wantErr {
		t.Errorf("%s %v, not %s %v", written(n), e, written(want), wantErr)
	}
}
