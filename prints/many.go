package prints

import (
	"slices"
	"strconv"
	"strings"

	"hexapla/api"
	"hexapla/checks"
	"hexapla/tree"
	"hexapla/trees"
)

// Distinct holds the texts of nodes against a model, and that no two different
// trees have the same one. It returns how many texts there are.
func (p Printer) Distinct(t checks.T, model func(n api.Node) string, nodes ...api.Node) int {
	t.Helper()
	seen := map[string]api.Node{}
	for _, n := range nodes {
		text, e := p.Check(t, n)
		if e != api.OK {
			continue
		}
		if want := model(n); text != want {
			t.Error(trees.Written(n)+":", strconv.Quote(text), "and not", strconv.Quote(want))
		}
		if other, is := seen[text]; is && !tree.Same(other, n) {
			t.Error(trees.Written(other), "and", trees.Written(n), "have the same text:", strconv.Quote(text))
		}
		seen[text] = n
	}
	return len(seen)
}

// Differ holds that trees that are written so have different texts, and what a
// model says of each.
func (p Printer) Differ(t checks.T, model func(n api.Node) string, written ...string) {
	t.Helper()
	var nodes []api.Node
	for _, w := range written {
		nodes = append(nodes, trees.Read(w))
	}
	if got := p.Distinct(t, model, nodes...); got != len(written) {
		t.Error(strconv.Itoa(got), "texts of", strconv.Itoa(len(written)), "trees:", written[0], "..")
	}
}

// Outside returns what of a text is not within quoted strings: these are empty.
func Outside(text string) string {
	var out strings.Builder
	for i, within := 0, false; i < len(text); i++ {
		switch {
		case within && text[i] == '\\':
			i++
		case text[i] == '"':
			within = !within
			out.WriteByte('"')
		case !within:
			out.WriteByte(text[i])
		}
	}
	return out.String()
}

// Random holds trees that next makes, and those that differ from them in one
// place, against a model, and that their texts differ, too. The texts are decoded
// in pieces. It returns how many texts there were.
func (p Printer) Random(t checks.T, m trees.Maker, next func() api.Node, model func(n api.Node) string) int {
	t.Helper()
	texts := 0
	for range 2000 {
		n := next()
		texts += p.Distinct(t, model, n, m.Spoiled(n), m.Spoiled(n), m.Spoiled(n))
		if text, _, e := p.Print(n); e == api.OK {
			i := m.Pick(len(text) + 1)
			p.Syntax.Pieces(t, []string{text[:i], text[i:]}, m.Rare(2), p.Syntax.Read(t, text))
		}
	}
	return texts
}

// Spare holds that what lies behind the Kids of a tree, which is written so, stays
// as it is when that is printed.
func (p Printer) Spare(t checks.T, written string) {
	t.Helper()
	n := roomy(trees.Read(written))
	before := trees.Written(full(n))
	p.Check(t, n)
	if after := trees.Written(full(n)); after != before {
		t.Error(before, "became", after)
	}
}

// Apart holds that a path is new memory: ^ is ahead of what cannot be represented,
// below the root.
func (p Printer) Apart(t checks.T, marked string) {
	t.Helper()
	bad, place := trees.Marked(marked)
	_, first, _ := p.Print(bad)
	_, second, _ := p.Print(bad)
	for i := range first {
		first[i] = -1
	}
	if !slices.Equal(second, place) {
		t.Error(marked+":", second)
	}
	p.Check(t, bad)
}

// roomy returns a copy of a tree in which there is another node behind all Kids,
// in the memory that these have.
func roomy(n api.Node) api.Node {
	kids := make([]api.Node, 0, len(n.Kids)+1)
	for _, kid := range n.Kids {
		kids = append(kids, roomy(kid))
	}
	n.Kids = append(kids, api.Node{Kind: api.Text, Text: "spare"})[:len(kids)]
	return n
}

// full returns a copy of what roomy returns in which the other nodes are Kids.
func full(n api.Node) api.Node {
	kids := slices.Clone(n.Kids[:len(n.Kids)+1])
	for i, kid := range n.Kids {
		kids[i] = full(kid)
	}
	n.Kids = kids
	return n
}
