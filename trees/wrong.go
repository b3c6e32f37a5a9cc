package trees

import (
	"strconv"
	"strings"

	"hexapla/api"
)

// Wrong is a node that is no tree.
type Wrong struct {
	Node api.Node
	Err  api.Errno // of tree.May
}

// Wrongs returns nodes that are no trees. One of them is nested nearly as deep as
// nodes may be, and may be put into another one.
func Wrongs() []Wrong {
	null, attr := api.Node{Kind: api.Null}, api.Node{Kind: api.Attr, Text: "k"}
	key := api.Node{Kind: api.Key, Text: "a", Kids: []api.Node{null}}
	list := []Wrong{
		{api.Node{Kind: api.Map, Kids: []api.Node{key, key}}, api.ErrTwice}, {api.Node{Kind: api.Elem, Text: "e", Kids: []api.Node{attr, attr}}, api.ErrTwice},
		{numbered(api.Map, "", key), api.ErrFields}, {numbered(api.Elem, "e", attr), api.ErrFields}, {nested(7, null), api.ErrDepth}, {nested(1<<16-2, null), api.ErrDepth},
	}
	for _, n := range []api.Node{
		{}, {Kind: -1}, {Kind: 99}, {Kind: api.EndList}, {Kind: api.EndMap}, {Kind: api.EndElem}, key, attr, {Kind: api.Map, Kids: []api.Node{null}},
		{Kind: api.Map, Kids: []api.Node{{Kind: api.Key, Text: "a"}}}, {Kind: api.Map, Kids: []api.Node{{Kind: api.Key, Text: "\xff", Kids: []api.Node{null}}}},
		{Kind: api.Null, Text: "x"}, {Kind: api.Null, Kids: []api.Node{null}}, {Kind: api.Bool}, {Kind: api.Number, Text: "10"}, {Kind: api.List, Val: "v"},
		{Kind: api.Text, Text: "\xff"}, {Kind: api.Text, Text: strings.Repeat("x", 49)}, {Kind: api.Text, Kids: []api.Node{null}},
		{Kind: api.Elem}, {Kind: api.Elem, Text: "e", Kids: []api.Node{null}}, {Kind: api.Elem, Text: "e", Kids: []api.Node{{Kind: api.Text}}},
	} {
		list = append(list, Wrong{n, api.ErrEvents})
	}
	return list
}

// numbered returns a node with eleven Kids, each with a text of its own.
func numbered(kind int, text string, kid api.Node) api.Node {
	n := api.Node{Kind: kind, Text: text}
	for i := range 11 {
		kid.Text = "k" + strconv.Itoa(i)
		n.Kids = append(n.Kids, kid)
	}
	return n
}

// nested returns a node within so many Lists.
func nested(lists int, n api.Node) api.Node {
	for range lists {
		n = api.Node{Kind: api.List, Kids: []api.Node{n}}
	}
	return n
}
