package carry_test

import (
	"slices"
	"strconv"
	"testing"

	"hexapla/api"
	"hexapla/carry"
	"hexapla/trees"
)

// TestNoSyntax holds that a syntax that is none is told ahead of all else.
func TestNoSyntax(t *testing.T) {
	for _, syntax := range []int{0, 7, 8, -1, -6, 100, 256 + api.Brace, 1<<32 + api.Brace, 1<<62 + api.Paren, -1 << 63, 1<<63 - 1} {
		for _, written := range []string{"null", "[ ]", "<e >", `{ "a": [ <e > null ] }`} {
			check(t, syntax, trees.Read(written), nil, api.ErrSyntaxNo)
		}
		for _, l := range trees.Wrongs() {
			check(t, syntax, l.Node, nil, api.ErrSyntaxNo)
		}
	}
}

// TestNoTrees holds the errors of tree.May, also where a node ahead of the fault
// cannot be represented.
func TestNoTrees(t *testing.T) {
	in := func(nodes ...api.Node) api.Node { return api.Node{Kind: api.List, Kids: nodes} }
	for _, syntax := range syntaxes {
		for _, l := range trees.Wrongs() {
			check(t, syntax, l.Node, nil, l.Err)
			check(t, syntax, in(trees.Read("<e >"), trees.Read("null"), trees.Read(sized(200)), l.Node), nil, l.Err)
			check(t, syntax, in(trees.Read("{ }"), l.Node, trees.Read("<e >")), nil, l.Err)
		}
	}
}

// TestParen holds that the paren syntax can represent what others cannot.
func TestParen(t *testing.T) {
	good(t, api.Paren, "null", "true", "1", `""`, sized(260), "[ ]", "{ }", "<e >", "[ <e > null ]", `{ "a": { } "b": 1 }`, "{ "+sizedKey(260)+" "+sized(260)+" }",
		`<e @xmlns="\x00" "\x01" >`, "<{u}e <e <{v}e > > >", "[ 1 { } { \"a\": <e > } [ ] ]", "{ "+fields(10, "<e >")+"}", times(6, "[")+times(6, "]"))
}

func TestBrace(t *testing.T) {
	good(t, api.Brace, "null", "true", "-1e9", `"\x00"`, sized(260), "[ ]", "{ }", "[ null ]", `{ "a": { } "b": 1 }`, `{ "": null }`, "{ "+sizedKey(260)+" "+sized(260)+" }",
		"[ 1 { } { \"a\": [ ] } [ ] ]", "{ "+fields(10, "null")+"}", times(6, "[")+times(6, "]"), times(6, `{ "k":`)+"1 "+times(6, "}"))
	bad(t, api.Brace, "^<e >", `^<e @k="v" "x" >`, "^<e <e > >", "[ ^<e > ]", "[ ^<e <e > > <e > ]", "[ 1 ^<e > ]", `{ "a": ^<e > }`, `{ "a": null "b": ^<e > "c": <e > }`,
		`[ [ ] { } [ 1 { "a": 1 "b": [ "x" ^<e @k="" > ] } ] <e > ]`, times(5, "[")+"^<e > "+times(5, "]"), times(5, `{ "k":`)+"^<e > "+times(5, "}"),
		"[ "+times(1000, "1")+"^<e > <e > ]")
}

// TestPlacesApart holds that a path is new memory, which nothing later changes.
func TestPlacesApart(t *testing.T) {
	n, want := trees.Marked("[ 1 [ 2 3 [ { \"a\": ^<e > } ] ] ]")
	first, _ := carry.Of(api.Brace, n)
	second, _ := carry.Of(api.Brace, n)
	_ = append(first[:2], 99, 99)
	if !slices.Equal(second, want) {
		t.Error(second)
	}
	carry.Of(api.Brace, trees.Read("[ [ <e > ] ]"))
	carry.Of(api.Sections, trees.Read(`{ "a": [ 1 null ] }`))
	if !slices.Equal(second, want) {
		t.Error(second)
	}
}

// TestSpare holds that what lies behind Kids stays as it is.
func TestSpare(t *testing.T) {
	kids := make([]api.Node, 0, 9)
	for i := range 9 {
		kids = append(kids, trees.Read(`{ "a": `+strconv.Itoa(i+1)+" }"))
	}
	before := trees.Written(api.Node{Kind: api.List, Kids: kids})
	for _, syntax := range syntaxes {
		carry.Of(syntax, api.Node{Kind: api.List, Kids: kids[:3]})
	}
	carry.Row(api.Node{Kind: api.List, Kids: kids[:3]})
	if trees.Written(api.Node{Kind: api.List, Kids: kids}) != before {
		t.Error(kids)
	}
}

// TestWide holds trees with very many Kids, in which the last one is the first
// that cannot be represented.
func TestWide(t *testing.T) {
	const many = 100000
	wide := func(kind int, text string, kid, last string) api.Node {
		kids := slices.Repeat([]api.Node{trees.Read(kid)}, many)
		return api.Node{Kind: kind, Text: text, Kids: append(kids, trees.Read(last))}
	}
	last := []int{many}
	check(t, api.Brace, wide(api.List, "", "1", "<e >"), last, api.ErrCannotCarry)
	check(t, api.Outline, wide(api.List, "", "1", sized(159)), last, api.ErrCannotCarry)
	check(t, api.Delim, wide(api.List, "", `{ "a": "x" }`, "{ }"), last, api.ErrCannotCarry)
	check(t, api.Delim, wide(api.List, "", `{ "a": "x" }`, `{ "a": "y" }`), nil, api.OK)
	check(t, api.Angle, wide(api.Elem, "e", "<e >", `"\x01"`), last, api.ErrCannotCarry)
	key := func(value api.Node) api.Node {
		return api.Node{Kind: api.Map, Kids: []api.Node{{Kind: api.Key, Text: "a", Kids: []api.Node{value}}}}
	}
	check(t, api.Sections, key(wide(api.List, "", `{ "a": "x" }`, `{ "a": null }`)), []int{0, 0, many, 0, 0}, api.ErrCannotCarry)
	check(t, api.Sections, key(wide(api.List, "", "1", "<e >")), []int{0, 0, many}, api.ErrCannotCarry)
	check(t, api.Sections, key(wide(api.List, "", "1", "2")), []int{0}, api.ErrCannotCarry)
}
