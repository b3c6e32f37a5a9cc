package tree_test

import (
	"math/rand"
	"slices"
	"testing"
	"unicode/utf8"

	"hexapla/api"
	"hexapla/events"
	"hexapla/names"
	"hexapla/num"
	"hexapla/tree"
	"hexapla/trees"
)

// fault returns the first error of a node that stands where a value must, within
// depth Lists, Maps and Elems. It asks the nodes, not their events.
func fault(n api.Node, depth int) api.Errno {
	opens := n.Kind == api.List || n.Kind == api.Map || n.Kind == api.Elem
	if !mayBegin(n) || !opens && len(n.Kids) > 0 {
		return api.ErrEvents
	}
	if opens && depth == 6 {
		return api.ErrDepth
	}
	switch n.Kind {
	case api.List:
		for _, kid := range n.Kids {
			if e := fault(kid, depth+1); e != api.OK {
				return e
			}
		}
	case api.Map:
		return faultOfFields(n.Kids, depth+1)
	case api.Elem:
		return faultOfContents(n.Kids, depth+1)
	}
	return api.OK
}

// mayBegin reports whether n is of the kind of a value, with a Text and a Val
// that it may have.
func mayBegin(n api.Node) bool {
	if n.Val != "" {
		return false
	}
	switch n.Kind {
	case api.Null, api.List, api.Map:
		return n.Text == ""
	case api.Bool:
		return n.Text == "true" || n.Text == "false"
	case api.Number:
		form, e := num.Read(n.Text)
		return e == api.OK && form == n.Text
	case api.Text:
		return isText(n.Text)
	case api.Elem:
		return isName(n.Text)
	}
	return false
}

func isText(s string) bool { return utf8.ValidString(s) && len(s) <= 48 }

func isName(s string) bool {
	_, _, ok := names.Cut(s)
	return ok
}

func faultOfFields(l []api.Node, depth int) api.Errno {
	for i, k := range l {
		if k.Kind != api.Key || k.Val != "" || !isText(k.Text) || len(k.Kids) != 1 {
			return api.ErrEvents
		}
		if e := faultOfAnother(l[:i], k.Text); e != api.OK {
			return e
		}
		if e := fault(k.Kids[0], depth); e != api.OK {
			return e
		}
	}
	return api.OK
}

// faultOfAnother returns the error of a field, or an attribute, behind others.
func faultOfAnother(others []api.Node, text string) api.Errno {
	if slices.ContainsFunc(others, func(n api.Node) bool { return n.Text == text }) {
		return api.ErrTwice
	}
	if len(others) >= 10 {
		return api.ErrFields
	}
	return api.OK
}

func faultOfContents(l []api.Node, depth int) api.Errno {
	last := api.Attr
	for i, k := range l {
		if k.Kind == api.Attr {
			if last != api.Attr || !isName(k.Text) || !isText(k.Val) || len(k.Kids) > 0 {
				return api.ErrEvents
			}
			if e := faultOfAnother(l[:i], k.Text); e != api.OK {
				return e
			}
			continue
		}
		if k.Kind != api.Elem && (k.Kind != api.Text || k.Text == "" || last == api.Text) {
			return api.ErrEvents
		}
		if e := fault(k, depth); e != api.OK {
			return e
		}
		last = k.Kind
	}
	return api.OK
}

// labels are the nodes of which the tests below make all small nodes.
var labels = []api.Node{
	null, word, text(""), list(), object(), elem("e"), key("a"), key("b"), attr("a", ""), attr("b", "v"), {Kind: api.EndList}, {Kind: api.EndMap}, {Kind: api.EndElem}, {},
}

// rows returns all rows of nodes of these labels that have n nodes in all, with
// what is below them.
func rows(labels []api.Node, n int) [][]api.Node {
	return trees.Rows(n, func(n int) []api.Node {
		var out []api.Node
		for _, kids := range rows(labels, n-1) {
			for _, label := range labels {
				out = append(out, with(label, kids...))
			}
		}
		return out
	})
}

// TestAllNodes holds the errors of all nodes of at most four nodes.
func TestAllNodes(t *testing.T) {
	met := map[api.Errno]int{}
	for n := range 4 {
		for _, kids := range rows(labels, n) {
			for _, label := range labels {
				n := with(label, kids...)
				want := fault(n, 0)
				checkMay(t, n, want)
				met[want]++
			}
		}
	}
	if met[api.OK] < 100 || met[api.ErrEvents] < 1000 {
		t.Error(met)
	}
}

// TestAllSame holds all pairs of small nodes.
func TestAllSame(t *testing.T) {
	var all []api.Node
	for n := range 4 {
		for _, row := range rows([]api.Node{{}, {Kind: 1}, {Text: "x"}, {Val: "x"}}, n) {
			all = append(all, list(row...))
		}
	}
	for i, a := range all {
		for j, b := range all {
			if tree.Same(a, b) != (i == j) {
				t.Errorf("%s and %s", written(a), written(b))
			}
		}
	}
}

// random returns a node that a tree may have at this depth below the root, but
// for the limits, and now and then another one.
func random(r *rand.Rand, depth int) api.Node {
	if r.Intn(400) == 0 {
		return with(labels[r.Intn(len(labels))], make([]api.Node, r.Intn(3))...)
	}
	if r.Intn(8) < depth { // ever fewer within one another
		return []api.Node{null, scalar, word, text(""), number("1e1")}[r.Intn(5)]
	}
	switch r.Intn(3) {
	case 0:
		return list(randomKids(r, r.Intn(4), func() api.Node { return random(r, depth+1) })...)
	case 1:
		n := r.Intn(4)
		if r.Intn(8) == 0 {
			n = 8 + r.Intn(4)
		}
		return object(randomKids(r, n, func() api.Node { return key(letter(r), random(r, depth+1)) })...)
	}
	return randomElem(r, depth)
}

func randomElem(r *rand.Rand, depth int) api.Node {
	n := r.Intn(3)
	if r.Intn(8) == 0 {
		n = 8 + r.Intn(4)
	}
	kids := randomKids(r, n, func() api.Node { return attr(letter(r), letter(r)) })
	return elem("e", append(kids, randomKids(r, r.Intn(4), func() api.Node {
		if r.Intn(4) == 0 {
			return text(letter(r))
		}
		if r.Intn(8) < depth {
			return elem(letter(r))
		}
		return randomElem(r, depth+1)
	})...)...)
}

// randomKids returns n Kids, mostly without the texts that are there already.
func randomKids(r *rand.Rand, n int, kid func() api.Node) []api.Node {
	var l []api.Node
	for range n {
		k := kid()
		for try := 0; try < 20 && (k.Kind == api.Key || k.Kind == api.Attr) && faultOfAnother(l, k.Text) == api.ErrTwice && r.Intn(30) > 0; try++ {
			k.Text = letter(r)
		}
		l = append(l, k)
	}
	return l
}

func letter(r *rand.Rand) string { return string(rune('a' + r.Intn(20))) }

// TestRandomNodes holds the errors of greater nodes, which meet the limits, and
// that trees survive the way to their events and back.
func TestRandomNodes(t *testing.T) {
	r := rand.New(rand.NewSource(6))
	met := map[api.Errno]int{}
	for range 20000 {
		n := random(r, 0)
		want := fault(n, 0)
		checkMay(t, n, want)
		met[want]++
		if want == api.OK {
			checkThere(t, n)
		}
	}
	for _, e := range []api.Errno{api.OK, api.ErrEvents, api.ErrDepth, api.ErrTwice, api.ErrFields} {
		if met[e] < 100 {
			t.Errorf("%v is met %d times", e, met[e])
		}
	}
}

// checkThere holds that Build undoes Walk.
func checkThere(t *testing.T, n api.Node) {
	t.Helper()
	l, e := tree.Walk(n)
	if i, e := events.Whole(l); i != len(l) || e != api.OK {
		t.Errorf("%s: %v at %d of %d", written(n), e, i, len(l))
	}
	back, f := tree.Build(l)
	checkNode(t, back, max(e, f), n, api.OK)
	if !tree.Same(back, n) {
		t.Errorf("%s is not the same", written(back))
	}
}

// checkBack holds that Walk undoes Build, where l are a document.
func checkBack(t *testing.T, l []api.Event) {
	t.Helper()
	n, e := tree.Build(l)
	if f := fault(n, 0); e != api.OK || f != api.OK {
		t.Errorf("%v: %s %v %v", l, written(n), e, f)
	}
	if back, e := tree.Walk(n); e != api.OK || writtenEvents(back) != writtenEvents(l) {
		t.Errorf("%v: %v %v", l, back, e)
	}
}

// alphabet are the events of which the tests below make rows.
var alphabet = []api.Event{
	ev(api.Null), ev(api.Text, "x"), ev(api.List), ev(api.EndList), ev(api.Map), ev(api.Key, "a"), ev(api.Key, "b"), ev(api.EndMap),
	ev(api.Elem, "e"), ev(api.Attr, "a", "v"), ev(api.Attr, "b"), ev(api.EndElem),
}

// checkRows holds what Build makes of l, and of each row of at most n events
// more that goes on with what is no error yet.
func checkRows(t *testing.T, l []api.Event, n int) {
	i, e := events.Whole(l)
	if e == api.OK {
		checkBack(t, l)
	} else {
		checkBuildError(t, l, e)
	}
	if n == 0 || i < len(l) {
		return
	}
	for _, x := range alphabet {
		checkRows(t, append(slices.Clone(l), x), n-1)
	}
}

func TestAllRows(t *testing.T) { checkRows(t, nil, 6) }

// TestRandomRows makes documents by offering random events, and then breaks
// them.
func TestRandomRows(t *testing.T) {
	r := rand.New(rand.NewSource(7))
	documents := 0
	for range 4000 {
		var l []api.Event
		c := events.New()
		for step := 0; step < 500 && !c.Done(); step++ {
			x := alphabet[r.Intn(len(alphabet))]
			if x.Kind == api.Key || x.Kind == api.Attr {
				x.Text = letter(r)
			}
			if c.Step(x) == api.OK {
				l = append(l, x)
			}
		}
		if !c.Done() {
			continue
		}
		documents++
		checkBack(t, l)
		checkBuildError(t, l[:r.Intn(len(l))], api.ErrEvents)
		broken := slices.Clone(l)
		broken[r.Intn(len(l))] = alphabet[r.Intn(len(alphabet))]
		if _, e := events.Whole(broken); e != api.OK {
			checkBuildError(t, broken, e)
		} else {
			checkBack(t, broken)
		}
	}
	if documents < 1000 {
		t.Errorf("%d documents", documents)
	}
}

// TestThereAndBack holds that Build undoes Walk, and Walk Build, for each value.
func TestThereAndBack(t *testing.T) {
	for _, n := range slices.Concat(values, []api.Node{nested(6, inList, word), nested(6, inMap, word), nested(6, inElem, word), object(fields(10)...), elem("e", attrs(10)...)}) {
		checkThere(t, n)
	}
	for _, p := range pairs {
		checkThere(t, p.n)
		checkBack(t, p.l)
	}
}
