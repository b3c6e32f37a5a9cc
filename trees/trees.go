// Package trees writes, reads and makes trees. Only tests use it.
package trees

import (
	"slices"
	"strings"

	"hexapla/api"
	"hexapla/checks"
	"hexapla/tree"
)

// Written writes a node, which need not be one of a tree, the same only for the
// same one.
func Written(n api.Node) string {
	var out strings.Builder
	write(&out, n)
	return out.String()
}

func write(out *strings.Builder, n api.Node) {
	out.WriteString(checks.Written([]api.Event{{Kind: n.Kind, Text: n.Text, Val: n.Val}}))
	out.WriteString("(")
	for _, kid := range n.Kids {
		write(out, kid)
	}
	out.WriteString(")")
}

// Read returns the tree whose events checks.Written writes so. It panics if there
// is none.
func Read(written string) api.Node {
	n, e := tree.Build(checks.Events(written))
	if e != api.OK {
		panic(e.Error() + ": " + written)
	}
	return n
}

// Marked returns the tree that is written so, and the path of its node that is
// written with a ^ ahead.
func Marked(written string) (api.Node, []int) {
	ahead, behind, is := strings.Cut(written, "^")
	if !is {
		panic("no ^: " + written)
	}
	n := Read(ahead + behind)
	nodes := 0
	for _, x := range checks.Events(ahead) {
		if x.Kind != api.EndList && x.Kind != api.EndMap && x.Kind != api.EndElem {
			nodes++
		}
	}
	return n, Spots(n)[nodes].Place
}

// Spot is a node, and where it stands.
type Spot struct {
	Line  []api.Node // from the root to the node
	Place []int
}

// Node returns the node itself.
func (s Spot) Node() api.Node { return s.Line[len(s.Line)-1] }

// Spots returns the nodes of a tree in the order of its walk.
func Spots(n api.Node) []Spot { return spots(Spot{Line: []api.Node{n}}) }

func spots(s Spot) []Spot {
	list := []Spot{s}
	for i, kid := range s.Node().Kids {
		list = append(list, spots(Spot{append(slices.Clip(s.Line), kid), append(slices.Clip(s.Place), i)})...)
	}
	return list
}

// Put returns n with these nodes in place of the one at a place, which is not
// the root.
func Put(n api.Node, place []int, nodes ...api.Node) api.Node {
	i := place[0]
	if len(place) > 1 {
		nodes = []api.Node{Put(n.Kids[i], place[1:], nodes...)}
	}
	n.Kids = slices.Concat(n.Kids[:i], nodes, n.Kids[i+1:])
	return n
}
