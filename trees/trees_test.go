package trees_test

import (
	"math/rand"
	"slices"
	"testing"

	"hexapla/api"
	"hexapla/checks"
	"hexapla/tree"
	"hexapla/trees"
)

// written writes the events of a tree.
func written(t *testing.T, n api.Node) string {
	t.Helper()
	l, e := tree.Walk(n)
	if e != api.OK {
		t.Errorf("%s: %v", trees.Written(n), e)
	}
	return checks.Written(l)
}

// panics reports whether f does.
func panics(f func()) (does bool) {
	defer func() { does = recover() != nil }()
	f()
	return false
}

func TestRead(t *testing.T) {
	for _, w := range []string{"null", "[ ]", `{ "a": [ 1 "x" ] "b": { } }`, `<e @k="v" "x" <{u}f > >`} {
		if got := written(t, trees.Read(w)); got != w {
			t.Errorf("%s, not %s", got, w)
		}
	}
	for _, w := range []string{"", "[", "1 2", `{ "a": 1 "a": 1 }`, `"a": 1`, "x y"} {
		if !panics(func() { trees.Read(w) }) {
			t.Error(w)
		}
	}
}

func TestMarked(t *testing.T) {
	for w, want := range map[string][]int{
		"^null": nil, "^[ 1 ]": nil, "[ ^1 ]": {0}, "[ 1 [ ] { } ^2 ]": {3}, `{ "a": [ 1 ] ^"b": 1 }`: {1}, `{ "a": [ 1 ] "b": ^1 }`: {1, 0}, `[ <e @k="" ^"x" > ]`: {0, 1}, `<e <f > ^<f > >`: {1}, `<e ^@k="" >`: {0},
	} {
		if n, place := trees.Marked(w); !slices.Equal(place, want) {
			t.Errorf("%s: %s %v", w, trees.Written(n), place)
		}
	}
	if n, _ := trees.Marked("[ 1 ^[ 2 ] ]"); written(t, n) != "[ 1 [ 2 ] ]" {
		t.Error(trees.Written(n))
	}
	for _, w := range []string{"[ ]", "[ ] ^", "[ ^"} {
		if !panics(func() { trees.Marked(w) }) {
			t.Error(w)
		}
	}
}

// TestWritten holds that different nodes are written differently.
func TestWritten(t *testing.T) {
	one := func(n api.Node, kids ...api.Node) api.Node {
		n.Kids = kids
		return n
	}
	list := []api.Node{
		{}, {Kind: api.Null}, {Kind: api.Bool, Text: "true"}, {Kind: api.Text, Text: "true"}, {Kind: api.Number, Text: "1"}, {Kind: api.Text, Text: "1"}, {Kind: api.Text, Text: "(1)"}, {Kind: api.Key, Text: "1"},
		{Kind: api.Attr, Text: "k", Val: "v"}, {Kind: api.Attr, Text: "k"}, {Kind: api.Text, Val: "v"}, {Kind: api.List}, {Kind: api.EndList}, one(api.Node{Kind: api.List}, api.Node{}), one(api.Node{Kind: api.List}, api.Node{}, api.Node{}),
		one(api.Node{Kind: api.List}, one(api.Node{}, api.Node{})), one(api.Node{Kind: api.Map}, api.Node{}),
	}
	seen := map[string]int{}
	for _, n := range list {
		seen[trees.Written(n)]++
	}
	if len(seen) != len(list) {
		t.Error(seen)
	}
}

func TestSpots(t *testing.T) {
	for _, w := range []string{"null", "[ ]", `[ 1 { "a": [ 2 3 ] "b": <e @k="v" "x" > } [ [ ] ] ]`} {
		n := trees.Read(w)
		l, _ := tree.Walk(n)
		l = slices.DeleteFunc(l, func(x api.Event) bool { return x.Kind == api.EndList || x.Kind == api.EndMap || x.Kind == api.EndElem })
		spots := trees.Spots(n)
		if len(spots) != len(l) {
			t.Fatal(w, len(spots), len(l))
		}
		for i, s := range spots {
			for up := range len(s.Place) + 1 {
				if at, e := tree.At(n, s.Place[:up]); e != api.OK || !tree.Same(at, s.Line[up]) {
					t.Error(w, s.Place, up, e)
				}
			}
			if kid := s.Node(); len(s.Line) != len(s.Place)+1 || l[i] != (api.Event{Kind: kid.Kind, Text: kid.Text, Val: kid.Val}) {
				t.Error(w, i, s)
			}
		}
	}
}

func TestPut(t *testing.T) {
	n := trees.Read("[ 1 [ 2 3 ] 4 ]")
	five := trees.Read("5")
	for _, l := range []struct {
		place []int
		nodes []api.Node
		want  string
	}{
		{[]int{0}, nil, "[ [ 2 3 ] 4 ]"}, {[]int{2}, []api.Node{five}, "[ 1 [ 2 3 ] 5 ]"}, {[]int{1, 0}, []api.Node{five, five}, "[ 1 [ 5 5 3 ] 4 ]"}, {[]int{1, 1}, nil, "[ 1 [ 2 ] 4 ]"}, {[]int{1}, []api.Node{five}, "[ 1 5 4 ]"},
	} {
		if got := written(t, trees.Put(n, l.place, l.nodes...)); got != l.want {
			t.Errorf("%v: %s, not %s", l.place, got, l.want)
		}
	}
	if got := written(t, n); got != "[ 1 [ 2 3 ] 4 ]" {
		t.Error(got)
	}
}

func TestWrongs(t *testing.T) {
	met := map[api.Errno]int{}
	for _, l := range trees.Wrongs() {
		met[l.Err]++
		for _, n := range []api.Node{l.Node, {Kind: api.List, Kids: []api.Node{l.Node}}} {
			if e := tree.May(n); e != l.Err || e == api.OK {
				t.Error(trees.Written(n), e)
			}
		}
	}
	if len(met) != 4 {
		t.Error(met)
	}
}

// TestAll holds that all small trees are there, and each of them once.
func TestAll(t *testing.T) {
	w := trees.Words{Scalars: []api.Node{trees.Read("null"), trees.Read(`"x"`)}, Keys: []string{"a"}, Elems: []string{"e"}, Attrs: trees.Read(`<e @k="" >`).Kids}
	var got []string
	for _, n := range w.All(2) {
		got = append(got, written(t, n))
	}
	want := []string{"null", `"x"`, "[ ]", "{ }", "<e >", "[ null ]", `[ "x" ]`, "[ [ ] ]", "[ { } ]", "[ <e > ]", `<e @k="" >`, `<e "x" >`, "<e <e > >"}
	slices.Sort(got)
	slices.Sort(want)
	if !slices.Equal(got, want) {
		t.Error(got)
	}
	seen := map[string]int{}
	for _, n := range w.All(4) {
		seen[written(t, n)]++
	}
	for _, w := range []string{`{ "a": null }`, `{ "a": [ { } ] }`, `[ { "a": "x" } ]`, `<e @k="" "x" <e > >`, `<e <e > "x" >`, "[ [ [ null ] ] ]", `[ null "x" <e > ]`} {
		if seen[w] != 1 {
			t.Error(w, seen[w])
		}
	}
	for w, times := range seen {
		if times > 1 || len(trees.Spots(trees.Read(w))) > 4 {
			t.Error(w, times)
		}
	}
}

// TestMaker holds that what is made at random are trees, small and great.
func TestMaker(t *testing.T) {
	r := rand.New(rand.NewSource(1))
	w := trees.Words{Scalars: []api.Node{trees.Read("null"), trees.Read(`"x"`), trees.Read(`""`)}, Elems: []string{"e", "f"}, Attrs: trees.Read(`<e @k="" @l="" >`).Kids}
	w.Attrs = append(w.Attrs, w.Attrs...)
	for c := range 14 {
		w.Keys = append(w.Keys, string(rune('a'+c)))
	}
	m := trees.Maker{Words: w, Pick: r.Intn}
	kinds, deepest, widest := map[int]int{}, 0, 0
	for range 3000 {
		n := []api.Node{m.Value(0), m.Elem(0), {Kind: api.Map, Kids: m.Fields(3, 1)}}[r.Intn(3)]
		written(t, n)
		for _, s := range trees.Spots(n) {
			kinds[s.Node().Kind]++
			deepest, widest = max(deepest, len(s.Place)), max(widest, len(s.Node().Kids))
		}
	}
	if len(kinds) != 7 || deepest < 8 || widest < 10 {
		t.Error(kinds, deepest, widest)
	}
	if l := trees.Some(m, 2, []int{1, 2, 3}); len(l) != 2 || l[0] == l[1] {
		t.Error(l)
	}
}

// TestSpoiled holds which changes are made, and that trees come of all of them.
func TestSpoiled(t *testing.T) {
	w := trees.Words{Scalars: trees.Read(`[ 1 "x" ]`).Kids, Keys: []string{"a", "b"}, Elems: []string{"e", "f"}, Attrs: trees.Read(`<e @k="" @l="" >`).Kids}
	for of, want := range map[string][]string{
		"null":                    {"null"},
		"[ null ]":                {"[ null ]", "[ 1 ]", `[ "x" ]`, "[ ]", "[ 1 null ]", "[ [ ] ]", "[ { } ]", "[ <e > ]"},
		`{ "a": 1 }`:              {`{ "a": 1 }`, `{ "b": 1 }`, `{ "b": 1 "a": 1 }`, `{ "e": 1 }`, "{ }", `{ "a": "x" }`, `{ "a": [ ] }`},
		`<e @k="" "x" <f > >`:     {`<e @k="" "x" <f > >`, `<e @l="" "x" <f > >`, `<e "x" <f > >`, `<e @k="" <f > >`, `<e @k="" "x" >`, `<e @k="" "x" <e > >`, `<e @k="" "x" <f > <f > >`},
		`[ { "a": [ 1 ] } <f > ]`: {`[ { "a": [ "x" ] } <f > ]`, `[ { "b": [ 1 ] } <f > ]`, `[ { "a": [ 1 ] } <e > ]`, `[ <f > ]`, `[ { "a": [ ] } <f > ]`},
	} {
		m := trees.Maker{Words: w, Pick: rand.New(rand.NewSource(2)).Intn}
		seen := map[string]int{}
		for range 5000 {
			seen[written(t, m.Spoiled(trees.Read(of)))]++
		}
		for _, w := range want {
			if seen[w] == 0 {
				t.Error(of, "never becomes", w)
			}
		}
	}
}
