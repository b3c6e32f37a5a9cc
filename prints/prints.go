// Package prints holds printers against what is promised of all of them. Only
// the tests of their packages use it.
package prints

import (
	"slices"
	"strconv"

	"hexapla/api"
	"hexapla/carry"
	"hexapla/checks"
	"hexapla/tree"
	"hexapla/trees"
)

// Printer is the package of a printer.
type Printer struct {
	Number int           // of its syntax
	Syntax checks.Syntax // that decodes what it prints
	Print  func(n api.Node) (string, []int, api.Errno)
}

// Check prints a node, which need not be a tree, and holds what is promised of
// all nodes. It returns the text and the error.
func (p Printer) Check(t checks.T, n api.Node) (string, api.Errno) {
	t.Helper()
	before := trees.Written(n)
	text, place, e := p.Print(n)
	if after := trees.Written(n); after != before {
		t.Error(before, "became", after)
	}
	wantPlace, want := carry.Of(p.Number, n)
	if e != want || !slices.Equal(place, wantPlace) {
		t.Error(before+":", place, e, "and not", wantPlace, want)
	}
	if e == api.OK {
		p.decoded(t, text, n)
	} else if text != "" {
		t.Error(before+":", e, "beside", strconv.Quote(text))
	}
	return text, e
}

// decoded holds that a text is decoded as the events of a tree.
func (p Printer) decoded(t checks.T, text string, n api.Node) {
	t.Helper()
	l, _ := tree.Walk(n)
	if r := p.Syntax.Read(t, text); r.Err != api.OK || !slices.Equal(r.Events, l) {
		t.Error(strconv.Quote(text)+":", r.Written(), "and not", checks.Written(l))
	}
}

// Good holds the text of a tree, which checks.Written writes so. The text is
// decoded in pieces, too.
func (p Printer) Good(t checks.T, written, want string) {
	t.Helper()
	text, e := p.Check(t, trees.Read(written))
	if text != want || e != api.OK {
		t.Error(written+":", strconv.Quote(text), e, "and not", strconv.Quote(want))
	}
	r := p.Syntax.Read(t, text)
	p.Syntax.Each(t, text, r)
	for i := range len(text) + 1 {
		p.Syntax.Pieces(t, []string{text[:i], text[i:]}, true, r)
	}
}

// Goods holds the texts of trees, each beside what is written of it.
func (p Printer) Goods(t checks.T, texts map[string]string) {
	t.Helper()
	for written, want := range texts {
		p.Good(t, written, want)
	}
}

// Bad holds because of which node trees are not printed: the one that is written
// with a ^ ahead.
func (p Printer) Bad(t checks.T, marked ...string) {
	t.Helper()
	for _, w := range marked {
		n, place := trees.Marked(w)
		p.refused(t, n, place, api.ErrCannotCarry)
	}
}

// refused holds with which path and which error a node is not printed.
func (p Printer) refused(t checks.T, n api.Node, place []int, want api.Errno) {
	t.Helper()
	p.Check(t, n)
	if text, got, e := p.Print(n); text != "" || !slices.Equal(got, place) || e != want {
		t.Error(trees.Written(n)+":", strconv.Quote(text), got, e, "and not", place, want)
	}
}

// NoTrees holds the errors of nodes that are no trees, alone and beside others,
// of which only the paren syntax can represent all.
func (p Printer) NoTrees(t checks.T) {
	t.Helper()
	others := []api.Node{{Kind: api.Null}, {Kind: api.Elem, Text: "e"}, {Kind: api.Text, Text: "\x01"}}
	for _, l := range trees.Wrongs() {
		p.NoTree(t, l.Node, l.Err)
		p.NoTree(t, api.Node{Kind: api.List, Kids: append(slices.Clip(others), l.Node)}, l.Err)
		p.NoTree(t, api.Node{Kind: api.List, Kids: append([]api.Node{l.Node}, others...)}, l.Err)
	}
}

// NoTree holds the error of a node that is no tree.
func (p Printer) NoTree(t checks.T, n api.Node, want api.Errno) {
	t.Helper()
	p.refused(t, n, nil, want)
}
