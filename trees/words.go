package trees

import (
	"slices"

	"hexapla/api"
	"hexapla/tree"
)

// Words are what trees are made of, with Lists and Maps.
type Words struct {
	Scalars []api.Node // values without Kids
	Keys    []string
	Elems   []string // their names
	Attrs   []api.Node
}

// Rows returns the rows of nodes that have n nodes in all, with what is below
// them, where each returns those of one node, with what is below it.
func Rows(n int, each func(n int) []api.Node) [][]api.Node {
	if n == 0 {
		return [][]api.Node{nil}
	}
	var list [][]api.Node
	for first := 1; first <= n; first++ {
		rest := Rows(n-first, each)
		for _, node := range each(first) {
			for _, others := range rest {
				list = append(list, append([]api.Node{node}, others...))
			}
		}
	}
	return list
}

// All returns the trees of at most n nodes.
func (w Words) All(n int) []api.Node {
	var list []api.Node
	for n := range n {
		list = append(list, w.values(n+1)...)
	}
	return list
}

// values returns the trees of n nodes.
func (w Words) values(n int) []api.Node {
	list := slices.Concat(inAll(api.List, "", Rows(n-1, w.values)), inAll(api.Map, "", Rows(n-1, w.fields)), w.elems(n))
	if n == 1 {
		list = append(list, w.Scalars...)
	}
	return list
}

// fields returns the fields of n nodes.
func (w Words) fields(n int) []api.Node {
	var list []api.Node
	for _, key := range w.Keys {
		for _, value := range w.values(max(0, n-1)) {
			list = append(list, api.Node{Kind: api.Key, Text: key, Kids: []api.Node{value}})
		}
	}
	return list
}

// elems returns the elements of n nodes.
func (w Words) elems(n int) []api.Node {
	var list []api.Node
	for _, name := range w.Elems {
		list = append(list, inAll(api.Elem, name, Rows(n-1, w.parts))...)
	}
	return list
}

// parts returns the Attrs, Texts and elements of n nodes.
func (w Words) parts(n int) []api.Node {
	if n == 1 {
		return slices.Concat(w.Attrs, w.texts(), w.elems(n))
	}
	return w.elems(n)
}

// texts returns the scalars that an element may contain.
func (w Words) texts() []api.Node {
	return slices.DeleteFunc(slices.Clone(w.Scalars), func(n api.Node) bool { return n.Kind != api.Text || n.Text == "" })
}

// inAll returns the trees of a kind that have one of these rows of Kids.
func inAll(kind int, text string, rows [][]api.Node) []api.Node {
	var list []api.Node
	for _, kids := range rows {
		if n := (api.Node{Kind: kind, Text: text, Kids: kids}); tree.May(n) == api.OK {
			list = append(list, n)
		}
	}
	return list
}

// Maker makes trees of words, each of them at random.
type Maker struct {
	Words
	Pick func(n int) int // see texts.Spoiled
}

// Rare reports whether something is to be done that is done once in some times.
func (m Maker) Rare(times int) bool { return m.Pick(times) == 0 }

// one returns one of a list.
func one[T any](m Maker, list []T) T { return list[m.Pick(len(list))] }

// Some returns n of a list, or all of a shorter one, in any order.
func Some[T any](m Maker, n int, list []T) []T {
	list = slices.Clone(list)
	for i := range list {
		k := i + m.Pick(len(list)-i)
		list[i], list[k] = list[k], list[i]
	}
	return list[:min(n, len(list))]
}

// Few returns how many fields or attributes there are to be: seldom many.
func (m Maker) Few() int {
	if m.Rare(12) {
		return 7 + m.Pick(4)
	}
	return m.Pick(4)
}

// Value returns a tree that stands within depth others.
func (m Maker) Value(depth int) api.Node {
	kind := m.Pick(4)
	switch {
	case depth == api.MaxDepth, m.Pick(8) < depth:
	case kind == 1:
		return api.Node{Kind: api.List, Kids: m.values(m.Pick(4), depth+1)}
	case kind == 2 && len(m.Keys) > 0:
		return api.Node{Kind: api.Map, Kids: m.Fields(m.Few(), depth+1)}
	case kind == 3 && len(m.Elems) > 0:
		return m.Elem(depth)
	}
	return one(m, m.Scalars)
}

func (m Maker) values(n, depth int) []api.Node {
	var list []api.Node
	for range n {
		list = append(list, m.Value(depth))
	}
	return list
}

// Fields returns n fields, or one for each key if these are fewer. Their values
// stand within depth others.
func (m Maker) Fields(n, depth int) []api.Node {
	var list []api.Node
	for _, key := range Some(m, n, m.Keys) {
		list = append(list, api.Node{Kind: api.Key, Text: key, Kids: m.values(1, depth)})
	}
	return list
}

// Elem returns an element that stands within depth others.
func (m Maker) Elem(depth int) api.Node {
	n := api.Node{Kind: api.Elem, Text: one(m, m.Elems)}
	for _, attr := range Some(m, m.Few(), m.Attrs) {
		if !slices.ContainsFunc(n.Kids, func(n api.Node) bool { return n.Text == attr.Text }) {
			n.Kids = append(n.Kids, attr)
		}
	}
	for range m.Pick(4) {
		if texts := m.texts(); len(texts) > 0 && endsWith(n) != api.Text && m.Rare(2) {
			n.Kids = append(n.Kids, one(m, texts))
		}
		if depth+1 < api.MaxDepth && m.Pick(8) >= depth {
			n.Kids = append(n.Kids, m.Elem(depth+1))
		}
	}
	return n
}

// endsWith returns the kind of the last Kid, or 0 if there is none.
func endsWith(n api.Node) int {
	if len(n.Kids) == 0 {
		return 0
	}
	return n.Kids[len(n.Kids)-1].Kind
}

// Spoiled returns n with another node in place of one below the root, or with
// none or two there, or n itself if that is no tree.
func (m Maker) Spoiled(n api.Node) api.Node {
	s := one(m, Spots(n))
	if len(s.Place) == 0 {
		return n
	}
	kid := m.other(s)
	put := one(m, [][]api.Node{{kid}, {kid}, nil, {kid, s.Node()}})
	if spoiled := Put(n, s.Place, put...); tree.May(spoiled) == api.OK {
		return spoiled
	}
	return n
}

// other returns what may stand in place of a node.
func (m Maker) other(s Spot) api.Node {
	n := s.Node()
	switch {
	case n.Kind == api.Attr && len(m.Attrs) > 0 && m.Rare(3):
		return one(m, m.Attrs)
	case n.Kind == api.Key, n.Kind == api.Elem:
		n.Text = one(m, slices.Concat(m.Keys, m.Elems))
		return n
	}
	return m.Value(len(s.Place))
}
