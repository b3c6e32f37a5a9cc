package carry_test

import (
	"math/rand"
	"slices"
	"strings"
	"testing"

	"hexapla/api"
	"hexapla/checks"
	"hexapla/trees"
)

// scalars returns some values that are written, each as a tree.
func scalars(written ...string) []api.Node {
	var list []api.Node
	for _, w := range written {
		list = append(list, trees.Read(w))
	}
	return list
}

// attributes returns some attributes that are written.
func attributes(written string) []api.Node {
	var list []api.Node
	for _, x := range checks.Events(written) {
		list = append(list, api.Node{Kind: api.Attr, Text: x.Text, Val: x.Val})
	}
	return list
}

// textsOf returns the Text of each event that is written.
func textsOf(written ...string) []string {
	var list []string
	for _, x := range checks.Events(strings.Join(written, " ")) {
		list = append(list, x.Text)
	}
	return list
}

// TestAll holds all small trees against the model.
func TestAll(t *testing.T) {
	var c tally
	for _, l := range []struct {
		trees.Words
		n        int
		syntaxes []int
	}{
		{trees.Words{Scalars: scalars("null", `"x"`), Keys: []string{"a"}, Elems: []string{"e"}, Attrs: attributes(`@k=""`)}, 5, syntaxes},
		{trees.Words{Scalars: scalars("1"), Keys: []string{"a", "b"}}, 7, []int{api.Brace, api.Sections, api.Paren}},
		{trees.Words{Scalars: scalars(`"x"`, "1"), Keys: []string{"a", "b"}}, 7, []int{api.Delim}},
		{trees.Words{Scalars: scalars(`"x"`, `"\x01"`), Elems: []string{"e", "{u}e"}, Attrs: attributes(`@xmlns="" @{u}k=""`)}, 4, []int{api.Angle, api.Paren}},
		{trees.Words{Scalars: scalars("1", sized(71)), Keys: textsOf(sizedKey(77), `"a":`)}, 6, []int{api.Outline, api.Sections}},
	} {
		for _, n := range l.All(l.n) {
			c.check(t, n, l.syntaxes)
		}
	}
	for _, syntax := range syntaxes {
		if c[syntax].could < 7 || syntax != api.Paren && c[syntax].not < 40 {
			t.Errorf("syntax %d: %v", syntax, c[syntax])
		}
	}
}

// maker makes random trees of which a syntax can represent many.
type maker struct{ trees.Maker }

// tree returns a tree for a syntax.
func (m maker) tree(syntax int) api.Node {
	switch syntax {
	case api.Angle:
		return m.Elem(0)
	case api.Sections:
		return m.table(0)
	case api.Delim:
		return m.rows()
	}
	return m.Value(0)
}

// table returns a Map, mostly with its deep fields behind the flat ones.
func (m maker) table(depth int) api.Node {
	n := api.Node{Kind: api.Map, Kids: m.Fields(m.Few(), depth+1)}
	for i := range n.Kids {
		if depth < 4 && m.Rare(3) {
			n.Kids[i].Kids = []api.Node{m.table(depth + 1)}
		} else if depth < 3 && m.Rare(3) {
			rows := api.Node{Kind: api.List}
			for range m.Pick(3) {
				rows.Kids = append(rows.Kids, m.table(depth+2))
			}
			n.Kids[i].Kids = []api.Node{rows}
		}
	}
	if !m.Rare(20) {
		slices.SortStableFunc(n.Kids, func(a, b api.Node) int { return deepness(a) - deepness(b) })
	}
	return n
}

func deepness(field api.Node) int {
	if isDeep(field) {
		return 1
	}
	return 0
}

// rows returns a List of Maps with the same keys.
func (m maker) rows() api.Node {
	n, keys := api.Node{Kind: api.List}, trees.Some(m.Maker, 1+m.Pick(9), m.Keys)
	for range m.Pick(4) {
		row := api.Node{Kind: api.Map}
		for _, key := range keys {
			row.Kids = append(row.Kids, api.Node{Kind: api.Key, Text: key, Kids: []api.Node{{Kind: api.Text, Text: key}}})
		}
		n.Kids = append(n.Kids, row)
	}
	return n
}

// wordsFor returns what trees for a syntax are made of, among it what lets lines
// be of about the length that they may have.
func wordsFor(syntax int) trees.Words {
	w := trees.Words{Scalars: scalars("1", "true", `"x"`, `"\t\né"`), Keys: []string{"a", "b", "c", "d", "e", "a b", "a.b", "", "null", "k1"}}
	switch syntax {
	case api.Angle:
		return trees.Words{Scalars: scalars(`"x"`, `"y\n"`), Elems: []string{"e", "{u}e", "{v}f", "{u}f"}, Attrs: attributes(attrs(10, 10) + `@k="v" @{v}k="" @{u}l="" @{v}m=""`)}
	case api.Brace, api.Paren:
		w.Scalars = append(w.Scalars, trees.Read("null"))
	case api.Outline, api.Sections:
		for n := range 12 {
			w.Scalars = append(w.Scalars, trees.Read(sized(146+n)))
			w.Keys = append(w.Keys, textsOf(sizedKey(148+n))...)
		}
		for n := range 8 {
			w.Scalars = append(w.Scalars, trees.Read(sized(70+n)))
			w.Keys = append(w.Keys, textsOf(sizedKey(72+n))...)
		}
	}
	return w
}

// TestRandom holds greater trees, and what becomes of them by small changes,
// against the model, with all syntaxes.
func TestRandom(t *testing.T) {
	r := rand.New(rand.NewSource(15))
	for _, syntax := range syntaxes {
		whole := maker{trees.Maker{Words: wordsFor(syntax), Pick: r.Intn}}
		spoiling := whole
		spoiling.Scalars = append(scalars("null", `"\x01"`, sized(170)), whole.Scalars...)
		spoiling.Elems = append([]string{"e", "{w}e"}, whole.Elems...)
		spoiling.Attrs = append(attributes(`@xmlns="" @c="\x00" @{x}d=""`), whole.Attrs...)
		var c tally
		for range 1500 {
			n := whole.tree(syntax)
			for range r.Intn(3) {
				n = spoiling.Spoiled(n)
			}
			c.check(t, n, syntaxes)
		}
		if c[syntax].could < 400 || syntax != api.Paren && c[syntax].not < 40 {
			t.Errorf("syntax %d: %v", syntax, c[syntax])
		}
		if has := syntax == api.Brace || syntax == api.Paren || syntax == api.Outline; has && c[syntax].removed < 200 {
			t.Errorf("syntax %d: %v", syntax, c[syntax])
		}
	}
}
