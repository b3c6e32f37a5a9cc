package tree_test

import (
	"slices"
	"testing"

	"hexapla/api"
	"hexapla/events"
	"hexapla/tree"
)

// ev returns an event of a kind, with its Text and its Val if there are any.
func ev(kind int, texts ...string) api.Event {
	x := api.Event{Kind: kind}
	if len(texts) > 0 {
		x.Text = texts[0]
	}
	if len(texts) > 1 {
		x.Val = texts[1]
	}
	return x
}

// pairs are trees with their events.
var pairs = []struct {
	n api.Node
	l []api.Event
}{
	{null, []api.Event{ev(api.Null)}},
	{scalar, []api.Event{ev(api.Bool, "true")}},
	{number("15e-1"), []api.Event{ev(api.Number, "15e-1")}},
	{text(""), []api.Event{ev(api.Text)}},
	{text("é"), []api.Event{ev(api.Text, "é")}},
	{list(), []api.Event{ev(api.List), ev(api.EndList)}},
	{object(), []api.Event{ev(api.Map), ev(api.EndMap)}},
	{elem("{u}e"), []api.Event{ev(api.Elem, "{u}e"), ev(api.EndElem)}},
	{list(null, word, text(""), word), []api.Event{ev(api.List), ev(api.Null), ev(api.Text, "x"), ev(api.Text), ev(api.Text, "x"), ev(api.EndList)}},
	{list(list(), object(), elem("e")), []api.Event{
		ev(api.List), ev(api.List), ev(api.EndList), ev(api.Map), ev(api.EndMap), ev(api.Elem, "e"), ev(api.EndElem), ev(api.EndList),
	}},
	{object(key("a", null)), []api.Event{ev(api.Map), ev(api.Key, "a"), ev(api.Null), ev(api.EndMap)}},
	{object(key("b", word), key("", list(null)), key("a", object(key("b", null)))), []api.Event{
		ev(api.Map), ev(api.Key, "b"), ev(api.Text, "x"), ev(api.Key), ev(api.List), ev(api.Null), ev(api.EndList),
		ev(api.Key, "a"), ev(api.Map), ev(api.Key, "b"), ev(api.Null), ev(api.EndMap), ev(api.EndMap),
	}},
	{elem("e", attr("b", "v"), attr("{u}a", ""), word, elem("f", attr("b", "w")), text("y")), []api.Event{
		ev(api.Elem, "e"), ev(api.Attr, "b", "v"), ev(api.Attr, "{u}a"), ev(api.Text, "x"), ev(api.Elem, "f"), ev(api.Attr, "b", "w"), ev(api.EndElem),
		ev(api.Text, "y"), ev(api.EndElem),
	}},
	{object(key("a", list(elem("e", elem("f", word))))), []api.Event{
		ev(api.Map), ev(api.Key, "a"), ev(api.List), ev(api.Elem, "e"), ev(api.Elem, "f"), ev(api.Text, "x"), ev(api.EndElem), ev(api.EndElem), ev(api.EndList), ev(api.EndMap),
	}},
}

func TestWalk(t *testing.T) {
	for _, p := range pairs {
		if l, e := tree.Walk(p.n); e != api.OK || !slices.Equal(l, p.l) {
			t.Errorf("%s: %v %v, not %v", written(p.n), l, e, p.l)
		}
	}
}

func TestBuild(t *testing.T) {
	for _, p := range pairs {
		n, e := tree.Build(p.l)
		checkNode(t, n, e, p.n, api.OK)
	}
}

// checkBuildError holds that Build returns the error of Whole, and nothing else.
func checkBuildError(t *testing.T, l []api.Event, want api.Errno) {
	t.Helper()
	before := slices.Clone(l)
	n, e := tree.Build(l)
	checkNode(t, n, e, api.Node{}, want)
	if _, e := events.Whole(l); e != want {
		t.Errorf("%v: Whole: %v, not %v", l, e, want)
	}
	if !slices.Equal(l, before) {
		t.Errorf("%v became %v", before, l)
	}
}

// TestBuildWrong holds events that end too early, and that go wrong at each
// place.
func TestBuildWrong(t *testing.T) {
	checkBuildError(t, nil, api.ErrEvents)
	checkBuildError(t, []api.Event{}, api.ErrEvents)
	for _, p := range pairs {
		for i := range p.l {
			checkBuildError(t, p.l[:i], api.ErrEvents)
			for _, x := range []api.Event{{}, ev(99), ev(api.Null, "x"), ev(api.Text, "\xff"), ev(api.Elem, "1"), ev(api.Number, "10"), ev(api.Attr, "b", "\xff")} {
				l := slices.Clone(p.l)
				l[i] = x
				checkBuildError(t, l, api.ErrEvents)
				checkBuildError(t, slices.Insert(slices.Clone(p.l), i, x), api.ErrEvents)
			}
		}
		for _, x := range []api.Event{{}, ev(api.Null), ev(api.List), ev(api.EndList), ev(api.EndMap), ev(api.EndElem), ev(api.Key, "z")} {
			checkBuildError(t, append(slices.Clone(p.l), x), api.ErrEvents) // behind the document
		}
	}
	for _, l := range [][]api.Event{
		{ev(api.EndList)}, {ev(api.Key, "a"), ev(api.Null)}, {ev(api.Attr, "a", "v")}, {ev(api.List), ev(api.EndMap)}, {ev(api.Map), ev(api.Null), ev(api.EndMap)},
		{ev(api.Map), ev(api.Key, "a"), ev(api.EndMap)}, {ev(api.Elem, "e"), ev(api.Null), ev(api.EndElem)},
		{ev(api.Elem, "e"), ev(api.Text, "x"), ev(api.Text, "y"), ev(api.EndElem)}, {ev(api.Elem, "e"), ev(api.Text, "x"), ev(api.Attr, "a", "v"), ev(api.EndElem)},
	} {
		checkBuildError(t, l, api.ErrEvents)
	}
}

// TestBuildLimits holds what is at the limits, and what goes past them.
func TestBuildLimits(t *testing.T) {
	lists := slices.Repeat([]api.Event{ev(api.List)}, 7)
	closes := slices.Repeat([]api.Event{ev(api.EndList)}, 7)
	n, e := tree.Build(slices.Concat(lists[:6], closes[:6]))
	checkNode(t, n, e, nested(5, inList, list()), api.OK)
	checkBuildError(t, slices.Concat(lists, closes), api.ErrDepth)
	checkBuildError(t, lists, api.ErrDepth)
	checkBuildError(t, lists[:6], api.ErrEvents)

	full, row := []api.Event{ev(api.Map)}, []api.Event{ev(api.Elem, "e")}
	for _, k := range fields(10) {
		full = append(full, ev(api.Key, k.Text), ev(api.Bool, "true"))
		row = append(row, ev(api.Attr, k.Text, "v"))
	}
	n, e = tree.Build(append(slices.Clone(full), ev(api.EndMap)))
	checkNode(t, n, e, object(fields(10)...), api.OK)
	n, e = tree.Build(append(slices.Clone(row), ev(api.EndElem)))
	checkNode(t, n, e, elem("e", attrs(10)...), api.OK)
	for _, l := range []struct {
		text string
		want api.Errno
	}{{"z", api.ErrFields}, {"k0", api.ErrTwice}, {"k9", api.ErrTwice}} {
		checkBuildError(t, append(slices.Clone(full), ev(api.Key, l.text), ev(api.Null), ev(api.EndMap)), l.want)
		checkBuildError(t, append(slices.Clone(row), ev(api.Attr, l.text), ev(api.EndElem)), l.want)
		checkBuildError(t, append(slices.Clone(full), ev(api.Key, l.text), ev(api.EndList)), l.want) // the first of two
	}
	checkBuildError(t, []api.Event{ev(api.Map), ev(api.Key, "a"), ev(api.Null), ev(api.Key, "a"), ev(api.Null), ev(api.EndMap)}, api.ErrTwice)
}
