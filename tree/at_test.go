package tree_test

import (
	"slices"
	"testing"
	"unsafe"

	"hexapla/api"
	"hexapla/tree"
)

// checkAt holds what stands at a place.
func checkAt(t *testing.T, n api.Node, place []int, want api.Node, wantErr api.Errno) {
	t.Helper()
	before, all := written(n), slices.Clone(place)
	got, e := tree.At(n, place)
	checkNode(t, got, e, want, wantErr)
	if written(n) != before || !slices.Equal(place, all) {
		t.Errorf("At %v changes what it is given", place)
	}
}

func TestAt(t *testing.T) {
	e := elem("e", attr("a", "v"), word, elem("f", text("y")))
	n := object(key("a", list(null, scalar, e)), key("b", word))
	for _, l := range []struct {
		place []int
		want  api.Node
	}{
		{nil, n}, {[]int{}, n}, {[]int{0}, n.Kids[0]}, {[]int{1}, n.Kids[1]}, {[]int{1, 0}, word}, {[]int{0, 0}, list(null, scalar, e)},
		{[]int{0, 0, 0}, null}, {[]int{0, 0, 1}, scalar}, {[]int{0, 0, 2}, e}, {[]int{0, 0, 2, 0}, attr("a", "v")}, {[]int{0, 0, 2, 1}, word},
		{[]int{0, 0, 2, 2}, elem("f", text("y"))}, {[]int{0, 0, 2, 2, 0}, text("y")},
	} {
		checkAt(t, n, l.place, l.want, api.OK)
		kids := len(l.want.Kids)
		for _, i := range []int{-1, kids, kids + 1, 99, 1 << 62, -1 << 63, 1 << 32, -1 << 32} {
			place := append(slices.Clone(l.place), i)
			checkAt(t, n, place, api.Node{}, api.ErrNone)
			checkAt(t, n, append(place, 0), api.Node{}, api.ErrNone) // further numbers
			checkAt(t, n, append(place, -1, 99), api.Node{}, api.ErrNone)
		}
	}
	for _, n := range values {
		checkAt(t, n, nil, n, api.OK)
		for i, kid := range n.Kids {
			checkAt(t, n, []int{i}, kid, api.OK)
		}
		checkAt(t, n, []int{len(n.Kids)}, api.Node{}, api.ErrNone)
	}
}

// TestAtAny holds that nodes need not be trees.
func TestAtAny(t *testing.T) {
	n := with(null, key("a"), api.Node{Kind: 99, Text: "\xff", Val: "v", Kids: []api.Node{{}}}, key("b", null, word))
	checkAt(t, n, nil, n, api.OK)
	checkAt(t, n, []int{1}, n.Kids[1], api.OK)
	checkAt(t, n, []int{1, 0}, api.Node{}, api.OK)
	checkAt(t, n, []int{1, 0, 0}, api.Node{}, api.ErrNone)
	checkAt(t, n, []int{2, 1}, word, api.OK)
	deep := nested(1<<16-1, inList, word)
	checkAt(t, deep, make([]int, 1<<16-1), word, api.OK)
	checkAt(t, deep, make([]int, 1<<16), api.Node{}, api.ErrNone)
	checkAt(t, deep, []int{0}, deep.Kids[0], api.OK)
}

func TestCopy(t *testing.T) {
	odd := []api.Node{{}, {Kind: 99, Text: "\xff", Val: "v"}, key("a"), key("a", null, null), with(word, null, word), attr("a", "v"), {Kids: []api.Node{{}, {}}}}
	for _, n := range slices.Concat(values, odd, []api.Node{nested(100, inElem, word), nested(1<<16-1, inList, word)}) {
		before := written(n)
		checkNode(t, tree.Copy(n), api.OK, n, api.OK)
		if written(n) != before {
			t.Errorf("%s became %s", before, written(n))
		}
	}
}

// overwrite changes n and all that is below it, and what lies behind its Kids.
func overwrite(n *api.Node) {
	n.Kind, n.Text, n.Val = 99, "changed", "too"
	n.Kids = n.Kids[:cap(n.Kids)]
	for i := range n.Kids {
		overwrite(&n.Kids[i])
	}
}

// roomy returns a copy of n with spare places behind all Kids.
func roomy(n api.Node) api.Node {
	kids := make([]api.Node, 0, len(n.Kids)+3)
	for _, kid := range n.Kids {
		kids = append(kids, roomy(kid))
	}
	n.Kids = kids
	return n
}

// TestCopyApart changes one side, and holds that the other one stays.
func TestCopyApart(t *testing.T) {
	for _, take := range []func(api.Node) api.Node{
		tree.Copy,
		func(n api.Node) api.Node {
			n, _ = tree.At(n, nil)
			return n
		},
		func(n api.Node) api.Node {
			n, _ = tree.At(list(null, object(key("a", n))), []int{1, 0, 0})
			return n
		},
	} {
		for _, n := range values {
			before := written(n)
			given := roomy(n)
			taken, again := take(given), take(given)
			overwrite(&taken)
			if written(given) != before || written(again) != before {
				t.Errorf("%s: %s, and another one %s", before, written(given), written(again))
			}
			overwrite(&given)
			if written(again) != before {
				t.Errorf("%s: %s", before, written(again))
			}
		}
	}
}

// TestBuildApart holds that no Kids of a tree that is built share memory, and
// that the events stay.
func TestBuildApart(t *testing.T) {
	for _, p := range pairs {
		l := slices.Clone(p.l)
		n, _ := tree.Build(l)
		again, _ := tree.Build(l)
		for i := range l {
			l[i] = api.Event{Kind: 99}
		}
		checkNode(t, n, api.OK, p.n, api.OK)
		overwrite(&n)
		checkNode(t, again, api.OK, p.n, api.OK)
		m, _ := tree.Walk(again)
		for i := range m {
			m[i] = api.Event{Kind: 99}
		}
		checkNode(t, again, api.OK, p.n, api.OK)
	}
}

// TestKidsApart holds that what is appended to some Kids changes no others.
func TestKidsApart(t *testing.T) {
	n := list(list(null), list(word, word, word), object(key("a", list()), key("b", list(null))), elem("e", word))
	l, _ := tree.Walk(n)
	built, _ := tree.Build(l)
	at, _ := tree.At(n, nil)
	for _, got := range []api.Node{built, at, tree.Copy(n)} {
		for i := range got.Kids {
			before := written(got)
			_ = append(got.Kids[i].Kids, api.Node{Kind: 99}, api.Node{Kind: 99})
			if written(got) != before {
				t.Errorf("%s became %s", before, written(got))
			}
		}
	}
}

// lying returns where the texts of a node, and of its Kids, lie.
func lying(n api.Node) []*byte {
	l := []*byte{unsafe.StringData(n.Text), unsafe.StringData(n.Val)}
	for _, kid := range n.Kids {
		l = append(l, lying(kid)...)
	}
	return slices.DeleteFunc(l, func(p *byte) bool { return p == nil })
}

// lyingEvents returns where the texts of events lie.
func lyingEvents(l []api.Event) []*byte {
	var n api.Node
	for _, x := range l {
		n.Kids = append(n.Kids, api.Node{Text: x.Text, Val: x.Val})
	}
	return lying(n)
}

// TestTextsApart holds that texts share no memory either.
func TestTextsApart(t *testing.T) {
	n := object(key("a", elem("e", attr("b", "v"), word)), key("c", number("1")))
	l, _ := tree.Walk(n)
	built, _ := tree.Build(l)
	at, _ := tree.At(n, []int{0, 0})
	for i, pair := range [][2][]*byte{{lying(n), lyingEvents(l)}, {lyingEvents(l), lying(built)}, {lying(n), lying(at)}, {lying(n), lying(tree.Copy(n))}} {
		if len(pair[1]) == 0 || slices.ContainsFunc(pair[1], func(p *byte) bool { return slices.Contains(pair[0], p) }) {
			t.Error(i)
		}
	}
}
