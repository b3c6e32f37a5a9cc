package tree_test

import (
	"slices"
	"strings"
	"testing"

	"hexapla/api"
)

// values are a tree of each kind of value, bare or filled.
var values = []api.Node{
	null, scalar, {Kind: api.Bool, Text: "false"}, number("-15e-1"), text(""), word, list(), object(), elem("e"),
	list(null), list(list(), object(), elem("e")), list(word, word, text("")), object(key("", null), key("a", word), key("A", list())),
	elem("{u}e", attr("a", ""), attr("{u}a", "v")), elem("e", word), elem("e", attr("a", "v"), word, elem("e"), elem("e"), word),
}

// ends are what must not be a node's kind: the Ends, and none of the kinds.
var ends = []int{api.EndList, api.EndMap, api.EndElem, 0, -1, 13, 99, 256 + api.Null, 1 << 62, -1 << 63}

func TestValues(t *testing.T) {
	for _, n := range values {
		checkMay(t, n, api.OK)
		checkMay(t, list(n), api.OK)
		checkMay(t, list(null, n, n), api.OK)
		checkMay(t, object(key("a", n)), api.OK)
		checkMay(t, object(key("a", n), key("b", n)), api.OK)
	}
}

// TestContents holds what may stand in an element.
func TestContents(t *testing.T) {
	for _, n := range values {
		want := api.ErrEvents
		if n.Kind == api.Elem || n.Kind == api.Text && n.Text != "" {
			want = api.OK
		}
		checkMay(t, elem("e", n), want)
		checkMay(t, elem("e", attr("a", "v"), n), want)
		checkMay(t, elem("e", elem("e"), n), want)
	}
}

// TestNoValues holds that what is no value is no tree, nor stands where one must.
func TestNoValues(t *testing.T) {
	no := []api.Node{key("a"), key("a", null), key("a", null, null), attr("a", "v"), attr("a", "")}
	for _, kind := range ends {
		no = append(no, api.Node{Kind: kind}, api.Node{Kind: kind, Text: "a"}, with(api.Node{Kind: kind}, null))
	}
	for _, n := range no {
		checkMay(t, n, api.ErrEvents)
		for _, around := range []api.Node{list(n), list(null, n), list(n, null), object(key("a", n)), list(list(n), null)} {
			checkMay(t, around, api.ErrEvents)
		}
		if n.Kind != api.Attr {
			checkMay(t, elem("e", n), api.ErrEvents)
			checkMay(t, elem("e", word, n), api.ErrEvents)
		}
		if n.Kind != api.Key || len(n.Kids) != 1 {
			checkMay(t, object(n), api.ErrEvents)
			checkMay(t, object(key("b", null), n), api.ErrEvents)
			checkMay(t, object(n, key("b", null)), api.ErrEvents)
		}
	}
	for _, n := range values { // a field needs its Key
		checkMay(t, object(n), api.ErrEvents)
		checkMay(t, object(key("b", null), n), api.ErrEvents)
	}
}

// TestEndsAsKids holds that an End event does not make up for a missing end.
func TestEndsAsKids(t *testing.T) {
	for _, l := range []struct {
		around api.Node
		end    int
	}{{list(), api.EndList}, {object(), api.EndMap}, {elem("e"), api.EndElem}} {
		end := api.Node{Kind: l.end}
		checkMay(t, with(l.around, end), api.ErrEvents)
		checkMay(t, list(with(l.around, end)), api.ErrEvents)
		checkMay(t, list(l.around, end), api.ErrEvents)
		checkMay(t, with(l.around, end, l.around), api.ErrEvents)
		checkMay(t, object(key("a", with(l.around, end))), api.ErrEvents)
	}
	// Behind such an end, what goes on in the outer one is not reached.
	twice := object(key("a", null), key("a", null))
	checkMay(t, list(list(list(api.Node{Kind: api.EndList}), twice)), api.ErrEvents)
	checkMay(t, inMap(object(key("a", object(api.Node{Kind: api.EndMap})), key("b", twice))), api.ErrEvents)
	checkMay(t, inElem(elem("e", elem("e", api.Node{Kind: api.EndElem}), elem("e", attr("a", ""), attr("a", "")))), api.ErrEvents)
	checkMay(t, object(with(key("a"), api.Node{Kind: api.EndMap})), api.ErrEvents)
	checkMay(t, object(key("a"), null), api.ErrEvents) // the value is not the Key's
}

func TestKeyKids(t *testing.T) {
	for _, l := range []struct {
		kids []api.Node
		want api.Errno
	}{
		{nil, api.ErrEvents}, {[]api.Node{null}, api.OK}, {[]api.Node{null, null}, api.ErrEvents}, {[]api.Node{null, key("b", null)}, api.ErrEvents},
		{[]api.Node{key("b", null)}, api.ErrEvents}, {[]api.Node{list(null, null)}, api.OK}, {[]api.Node{attr("a", "v")}, api.ErrEvents},
	} {
		n := key("a", l.kids...)
		for _, around := range []api.Node{object(n), object(key("b", null), n), object(n, key("b", null)), list(object(n)), object(key("a", object(n)))} {
			checkMay(t, around, l.want)
		}
	}
}

// TestKidless holds that what must not have Kids has none.
func TestKidless(t *testing.T) {
	for _, n := range []api.Node{null, scalar, number("1"), word, text("")} {
		for _, kid := range []api.Node{null, word, list(), key("a", null), {}, {Kind: api.EndList}} {
			n := with(n, kid)
			checkMay(t, n, api.ErrEvents)
			checkMay(t, with(n, kid, kid), api.ErrEvents)
			checkMay(t, list(n), api.ErrEvents)
			checkMay(t, object(key("a", n)), api.ErrEvents)
			checkMay(t, elem("e", n), api.ErrEvents)
			checkMay(t, elem("e", with(attr("a", "v"), kid)), api.ErrEvents)
		}
	}
}

// TestEmptyKids holds that Kids that are empty are none.
func TestEmptyKids(t *testing.T) {
	for _, n := range values {
		if len(n.Kids) == 0 {
			n.Kids = make([]api.Node, 0, 3)
			checkMay(t, n, api.OK)
		}
	}
	checkMay(t, elem("e", with(attr("a", "v"), []api.Node{}...)), api.OK)
	checkMay(t, object(api.Node{Kind: api.Key, Kids: []api.Node{}}), api.ErrEvents)
}

func TestDepth(t *testing.T) {
	for _, around := range []func(api.Node) api.Node{inList, inMap} {
		for _, inner := range []api.Node{list(), object(), elem("e"), list(word), object(key("a", word)), elem("e", word)} {
			for n := range 6 {
				checkMay(t, nested(n, around, inner), api.OK)
			}
			checkMay(t, nested(6, around, inner), api.ErrDepth)
			checkMay(t, nested(7, around, inner), api.ErrDepth)
			checkMay(t, nested(100, around, inner), api.ErrDepth)
		}
		checkMay(t, nested(6, around, scalar), api.OK)
		checkMay(t, nested(7, around, scalar), api.ErrDepth)
	}
	checkMay(t, nested(5, inElem, elem("e")), api.OK)
	checkMay(t, nested(6, inElem, elem("e")), api.ErrDepth)
	checkMay(t, nested(6, inElem, word), api.OK)
	checkMay(t, nested(7, inElem, word), api.ErrDepth)
	deep := nested(6, inList, word) // what ends is deep no more
	checkMay(t, list(deep.Kids[0], deep.Kids[0], deep.Kids[0]), api.OK)
	checkMay(t, list(deep.Kids[0], deep, deep.Kids[0]), api.ErrDepth)
}

// TestDeepest goes as deep as nodes may be.
func TestDeepest(t *testing.T) {
	checkMay(t, nested(1<<16-1, inList, null), api.ErrDepth)
	checkMay(t, nested(1<<15-1, inMap, null), api.ErrDepth)
	checkMay(t, nested(1<<16-1, inElem, word), api.ErrDepth)
	inKey := func(n api.Node) api.Node { return key("a", n) }
	checkMay(t, nested(1<<16-1, inKey, null), api.ErrEvents)
	checkMay(t, object(nested(1<<16-2, inKey, null)), api.ErrEvents)
	inText := func(n api.Node) api.Node { return with(word, n) }
	checkMay(t, nested(1<<16-1, inText, null), api.ErrEvents)
}

func TestFields(t *testing.T) {
	for n := range 11 {
		checkMay(t, object(fields(n)...), api.OK)
		checkMay(t, elem("e", attrs(n)...), api.OK)
		checkMay(t, elem("e", append(attrs(n), word, elem("e", attrs(10)...))...), api.OK)
	}
	checkMay(t, object(fields(11)...), api.ErrFields)
	checkMay(t, elem("e", attrs(11)...), api.ErrFields)
	checkMay(t, list(object(fields(10)...), object(fields(11)...)), api.ErrFields)
	checkMay(t, object(key("a", elem("e", attrs(11)...))), api.ErrFields)
	many := slices.Repeat([]api.Node{word, elem("e")}, 20) // neither contents nor values count
	checkMay(t, elem("e", append(attrs(10), many...)...), api.OK)
	checkMay(t, list(many...), api.OK)
	within := fields(10)
	within[3] = key("k3", object(fields(10)...))
	checkMay(t, object(within...), api.OK)
}

// TestTwice repeats each of the fields and attributes at each place behind it.
func TestTwice(t *testing.T) {
	for n := 1; n <= 13; n++ {
		for first := range n {
			for at := first + 1; at <= n; at++ {
				want := api.ErrTwice
				if at > 10 { // the eleventh one comes ahead
					want = api.ErrFields
				}
				checkMay(t, object(slices.Insert(fields(n), at, key(fields(n)[first].Text, null))...), want)
				checkMay(t, elem("e", slices.Insert(attrs(n), at, attr(attrs(n)[first].Text, "w"))...), want)
			}
		}
	}
	checkMay(t, object(key("a", object(key("a", null))), key("b", object(key("a", null)))), api.OK)
	checkMay(t, elem("a", attr("a", "v"), elem("a", attr("a", "v"))), api.OK)
	checkMay(t, elem("e", attr("a", "v"), attr("{u}a", "v"), attr("{v}a", "v")), api.OK)
}

// TestContentsOrder holds the order of attributes and contents.
func TestContentsOrder(t *testing.T) {
	a, b, e := attr("a", "v"), attr("b", "v"), elem("e")
	for _, kids := range [][]api.Node{{a, b}, {a, word, e, word}, {e, e, word}, {word, e, word}, {a, b, e}} {
		checkMay(t, elem("e", kids...), api.OK)
	}
	for _, kids := range [][]api.Node{
		{word, a}, {e, a}, {a, word, b}, {a, e, b}, {word, e, a}, {e, elem("e", a), b}, // an attribute behind contents
		{word, word}, {a, word, word}, {e, word, word}, {word, word, e}, {word, text("y")}, {word, e, word, word}, // two texts
		{text("")}, {a, text("")}, {e, text("")}, {text(""), e}, {word, text("")}, // an empty one
	} {
		checkMay(t, elem("e", kids...), api.ErrEvents)
	}
	checkMay(t, list(word, word), api.OK) // which holds in elements only
	checkMay(t, elem("e", elem("e", word), word), api.OK)
}

// checkForm holds whether a node's Text and Val are allowed.
func checkForm(t *testing.T, n api.Node, ok bool) {
	t.Helper()
	want := api.ErrEvents
	if ok {
		want = api.OK
	}
	switch n.Kind {
	case api.Key:
		checkMay(t, object(with(n, null)), want)
	case api.Attr:
		checkMay(t, elem("e", n), want)
	default:
		checkMay(t, n, want)
		checkMay(t, list(null, n), want)
	}
}

func TestForms(t *testing.T) {
	s, n := strings.Repeat("s", 60), strings.Repeat("n", 17)
	for _, kind := range []int{api.Null, api.List, api.Map} {
		checkForm(t, api.Node{Kind: kind, Text: "x"}, false)
	}
	for _, x := range values {
		x.Val = "v"
		checkForm(t, x, false)
	}
	checkForm(t, api.Node{Kind: api.Key, Val: "v"}, false)
	for _, x := range []string{"", "True", "1", "null", "true "} {
		checkForm(t, api.Node{Kind: api.Bool, Text: x}, false)
	}
	for _, x := range []string{"0", "1e1", "-15e-1", "1e999"} {
		checkForm(t, number(x), true)
	}
	for _, x := range []string{"", "10", "1.5", "1E1", "-0", "01", "1e1000", "a", strings.Repeat("1", 31)} {
		checkForm(t, number(x), false)
	}
	for _, x := range []string{"", " ", "\x00", "é", s[:48], s[:46] + "é"} {
		checkForm(t, text(x), true)
		checkForm(t, key(x), true)
		checkForm(t, attr("a", x), true)
	}
	for _, x := range []string{"\xff", "a\xc3", "\xed\xa0\x80", s[:49], s[:47] + "é", s[:47] + "\xff"} {
		checkForm(t, text(x), false)
		checkForm(t, key(x), false)
		checkForm(t, attr("a", x), false)
		checkForm(t, elem("e", text(x)), false)
	}
	for _, x := range []string{"a", "_1", "{u}a", n[:16], "{" + s[:45] + "}a"} {
		checkForm(t, elem(x), true)
		checkForm(t, attr(x, "v"), true)
	}
	for _, x := range []string{"", "1", "é", "a b", "p:a", "{}a", "{u}", "{u v}a", "\xff", n, "{" + s[:46] + "}a"} {
		checkForm(t, elem(x), false)
		checkForm(t, attr(x, "v"), false)
	}
}

// TestFirstError holds that of several errors the first in the walk is told.
func TestFirstError(t *testing.T) {
	deep, broad := nested(7, inList, null), object(fields(11)...)
	twice, no := object(key("a", null), key("a", null)), text("\xff")
	for want, n := range map[api.Errno]api.Node{api.ErrDepth: deep, api.ErrFields: broad, api.ErrTwice: twice, api.ErrEvents: no} {
		for _, last := range []api.Node{deep, broad, twice, no, key("a"), {}} {
			checkMay(t, list(null, n, last), want)
			checkMay(t, object(key("a", n), key("b", last)), want)
			checkMay(t, object(key("a", n), key("a", null)), want)
			checkMay(t, object(append(append(fields(9), key("a", n)), fields(11)[10:]...)...), want)
		}
	}
	checkMay(t, object(append(fields(10), key("z", deep))...), api.ErrFields) // a Key ahead of its value
	checkMay(t, object(key("a", null), key("a", deep)), api.ErrTwice)
	checkMay(t, elem("e", append(attrs(11), text(""))...), api.ErrFields)
	checkMay(t, elem("e", append(attrs(2), attr("k0", "\xff"))...), api.ErrEvents) // the form ahead of the limits
	checkMay(t, object(append(fields(10), api.Node{Kind: api.Key, Text: "k0", Val: "v", Kids: []api.Node{null}})...), api.ErrEvents)
	checkMay(t, nested(6, inList, api.Node{Kind: api.List, Text: "x"}), api.ErrEvents)
	checkMay(t, nested(6, inList, elem("1")), api.ErrEvents)
	checkMay(t, nested(6, inElem, list()), api.ErrEvents)
	checkMay(t, nested(6, inList, elem("e", text(""))), api.ErrDepth) // a node ahead of its Kids
}

// TestKidsFirst holds that where the walk reaches a node with Kids that it must
// not have, or without the one that it must have, this is told ahead of
// whatever its event would be refused with.
func TestKidsFirst(t *testing.T) {
	for _, kids := range [][]api.Node{nil, {null, null}, {null, key("b", null)}} {
		checkMay(t, object(key("a", null), key("a", kids...)), api.ErrEvents)
		checkMay(t, object(append(fields(10), key("z", kids...))...), api.ErrEvents)
		checkMay(t, object(append(fields(10), key("k0", kids...))...), api.ErrEvents)
		checkMay(t, object(append(fields(11), key("z", kids...))...), api.ErrFields) // reached too late
		checkMay(t, object(key("a", null), key("a", null), key("b", kids...)), api.ErrTwice)
	}
	checkMay(t, elem("e", attr("a", "v"), with(attr("a", "v"), null)), api.ErrEvents)
	checkMay(t, elem("e", append(attrs(10), with(attr("z", "v"), null))...), api.ErrEvents)
}
