package inkparen_test

import (
	"slices"
	"strconv"
	"testing"
	"unsafe"

	"hexapla/api"
	"hexapla/inkparen"
	"hexapla/texts"
	"hexapla/trees"
)

func TestScalars(t *testing.T) {
	printer.Goods(t, map[string]string{"null": "#n", "true": "#t", "false": "#f"})
	for _, form := range []string{"0", "1", "-1", "12", "1e1", "15e-1", "-15e-1", "1e999", "-1e-999", "123456789", times(30, "1"), "-" + times(29, "9")} {
		printer.Good(t, form, form)
	}
}

// TestTexts holds texts, keys, and values of attributes.
func TestTexts(t *testing.T) {
	for _, l := range texts.Printed() {
		quoted := strconv.Quote(l.Text)
		printer.Good(t, quoted, l.Want)
		printer.Good(t, "{ "+quoted+": [ "+quoted+" ] }", "#("+l.Want+" ("+l.Want+"))")
		printer.Good(t, "<e @k="+quoted+" >", `#<"e" @"k" `+l.Want+")")
		if l.Text != "" {
			printer.Good(t, "<e "+quoted+" >", `#<"e" `+l.Want+")")
		}
	}
}

func TestLists(t *testing.T) {
	printer.Goods(t, map[string]string{
		"[ ]": "()", "[ null ]": "(#n)", "[ 1 2 3 ]": "(1 2 3)", "[ 1 -2 ]": "(1 -2)", `[ null true false -15e-1 "a b" ]`: `(#n #t #f -15e-1 "a b")`, `[ "" "" ]`: `("" "")`, `[ "x" ]`: `("x")`, `[ 1 1 ]`: "(1 1)",
		"[ null true { } [ ] <e > ]": `(#n #t #() () #<"e"))`, "[ [ 1 ] 2 [ ] [ [ 3 4 ] ] ]": "((1) 2 () ((3 4)))", `[ { "a": 1 } { "a": 1 } ]`: `(#("a" 1) #("a" 1))`, `[ <e > <e > "x" ]`: `(#<"e") #<"e") "x")`,
		"[ " + times(99, "1 ") + "2 ]": "(" + times(99, "1 ") + "2)",
	})
}

func TestMaps(t *testing.T) {
	printer.Goods(t, map[string]string{
		"{ }": "#()", `{ "a": null }`: `#("a" #n)`, `{ "a": [ 1 "x" ] }`: `#("a" (1 "x"))`, `{ "b": 1 "a": true "B": "a" }`: `#("b" 1 "a" #t "B" "a")`, `{ "a": { } "b": [ ] "c": <e > }`: `#("a" #() "b" () "c" #<"e"))`,
		`{ "a-_1": 1 "a.b": 2 "": 3 "a b": 4 "1": 5 "{u}a": 6 "é": 7 "#n": 8 }`: `#("a-_1" 1 "a.b" 2 "" 3 "a b" 4 "1" 5 "{u}a" 6 "é" 7 "#n" 8)`, `{ "\"": 1 "\n": 2 "\\": 3 }`: `#("\"" 1 "\n" 2 "\\" 3)`,
		`{ "a": { "a": { "b": 1 "a": 2 } "b": 3 } "b": 4 }`: `#("a" #("a" #("b" 1 "a" 2) "b" 3) "b" 4)`, `{ "a": [ { "a": [ ] } ] "b": [ { } ] }`: `#("a" (#("a" ())) "b" (#()))`,
		`{ "j": 0 "i": 1 "h": 2 "g": 3 "f": 4 "e": 5 "d": 6 "c": 7 "b": 8 "a": 9 }`: `#("j" 0 "i" 1 "h" 2 "g" 3 "f" 4 "e" 5 "d" 6 "c" 7 "b" 8 "a" 9)`,
	})
}

func TestElems(t *testing.T) {
	space := times(31, "u")
	printer.Goods(t, map[string]string{
		"<e >": `#<"e")`, `<e @k="v" >`: `#<"e" @"k" "v")`, `<e @k="" >`: `#<"e" @"k" "")`, `<e @b="1" @a="2" @B="1" >`: `#<"e" @"b" "1" @"a" "2" @"B" "1")`, `<e "x" >`: `#<"e" "x")`, `<e @k="v" "x" >`: `#<"e" @"k" "v" "x")`, `<e @e="e" "e" <e > >`: `#<"e" @"e" "e" "e" #<"e"))`,
		"<e <f > >": `#<"e" #<"f"))`, `<e <f > <f > "x" <g > "y" >`: `#<"e" #<"f") #<"f") "x" #<"g") "y")`, `<e "x" <f @k="v" > "y" >`: `#<"e" "x" #<"f" @"k" "v") "y")`, `<e @k="v" <f @k="w" "x" > <g "y" > >`: `#<"e" @"k" "v" #<"f" @"k" "w" "x") #<"g" "y"))`,
		"<{u}e >": `#<"{u}e")`, `<{u}e @{u}k="v" @k="v" @{v}k="{w}x" >`: `#<"{u}e" @"{u}k" "v" @"k" "v" @"{v}k" "{w}x")`, "<{é/#()'}a-_.1 >": `#<"{é/#()'}a-_.1")`, "<{u}e <e <{v}e > > >": `#<"{u}e" #<"e" #<"{v}e")))`, `<e @xmlns="u" >`: `#<"e" @"xmlns" "u")`,
		"<{" + space + "}abcdefghijklmno >": `#<"{` + space + `}abcdefghijklmno")`, `<e @{` + space + `}abcdefghijklmno="v" >`: `#<"e" @"{` + space + `}abcdefghijklmno" "v")`,
		`<e @j="0" @i="1" @h="2" @g="3" @f="4" @e="5" @d="6" @c="7" @b="8" @a="9" "x" >`: `#<"e" @"j" "0" @"i" "1" @"h" "2" @"g" "3" @"f" "4" @"e" "5" @"d" "6" @"c" "7" @"b" "8" @"a" "9" "x")`, `<e @k="@\"l\" " " " >`: `#<"e" @"k" "@\"l\" " " ")`,
		"<e " + times(50, `"x" <f > `) + ">": `#<"e"` + times(50, ` "x" #<"f")`) + ")",
	})
}

// TestDeep holds lists, maps and elements within each other, as deep as a document
// may be.
func TestDeep(t *testing.T) {
	elems := map[string]string{"<f >": `#<"f")`, `<f "x" >`: `#<"f" "x")`, `<f @k="v" "x" >`: `#<"f" @"k" "v" "x")`}
	for n := range 7 {
		inValues(t, n, map[string]string{"1": "1", "null": "#n", `"x"`: `"x"`})
	}
	for n := range 6 {
		inValues(t, n, map[string]string{"[ ]": "()", "{ }": "#()", `[ 1 "x" ]`: `(1 "x")`, `{ "a": true }`: `#("a" #t)`})
		inValues(t, n, elems)
		inElems(t, n, elems)
	}
}

// inValues holds the texts of trees within n lists and maps.
func inValues(t *testing.T, n int, values map[string]string) {
	t.Helper()
	for written, want := range values {
		printer.Goods(t, map[string]string{
			times(n, "[ ") + written + times(n, " ]"):                      times(n, "(") + want + times(n, ")"),
			times(n, `{ "k": `) + written + times(n, " }"):                 times(n, `#("k" `) + want + times(n, ")"),
			times(n, "[ 0 ") + written + times(n, " 1 ]"):                  times(n, "(0 ") + want + times(n, " 1)"),
			times(n, `{ "k": 0 "l": `) + written + times(n, ` "m": 1 }`):   times(n, `#("k" 0 "l" `) + want + times(n, ` "m" 1)`),
			times(n/2, `[ { "k": `) + written + times(n/2, " } ]"):         times(n/2, `(#("k" `) + want + times(n/2, "))"),
			times(n/2, `{ "k": [ 0 `) + written + times(n/2, ` ] "": 1 }`): times(n/2, `#("k" (0 `) + want + times(n/2, `) "" 1)`),
		})
	}
}

// inElems holds the texts of elements within n others, or within n lists, maps and
// elements.
func inElems(t *testing.T, n int, elems map[string]string) {
	t.Helper()
	lists, pairs := n/2, n/4
	for written, want := range elems {
		printer.Goods(t, map[string]string{
			times(n, "<e ") + written + times(n, " >"):                                                                    times(n, `#<"e" `) + want + times(n, ")"),
			times(n, `<e @k="v" @l="" "w" `) + written + times(n, ` "y" >`):                                               times(n, `#<"e" @"k" "v" @"l" "" "w" `) + want + times(n, ` "y")`),
			times(lists, "[ 0 ") + times(n-lists, "<e ") + written + times(n-lists, " >") + times(lists, " 1 ]"):          times(lists, "(0 ") + times(n-lists, `#<"e" `) + want + times(n-lists, ")") + times(lists, " 1)"),
			times(pairs, `[ { "k": `) + times(n-2*pairs, "<e ") + written + times(n-2*pairs, " >") + times(pairs, " } ]"): times(pairs, `(#("k" `) + times(n-2*pairs, `#<"e" `) + want + times(n-2*pairs, ")") + times(pairs, "))"),
		})
	}
}

func TestNoTrees(t *testing.T) { printer.NoTrees(t) }

// TestNoElems holds the errors of what is within elements that no tree has.
func TestNoElems(t *testing.T) {
	text, attr := api.Node{Kind: api.Text, Text: "x"}, api.Node{Kind: api.Attr, Text: "k", Val: "v"}
	elem := func(kids ...api.Node) api.Node { return api.Node{Kind: api.Elem, Text: "e", Kids: kids} }
	for _, kids := range [][]api.Node{
		{text, text}, {text, attr}, {elem(), attr}, {attr, text, attr}, {{Kind: api.Text}}, {trees.Read("1")}, {trees.Read("[ ]")}, {trees.Read("{ }")}, {text, {Kind: api.Null}}, trees.Read(`{ "k": 1 }`).Kids,
		{{Kind: api.Attr}}, {{Kind: api.Attr, Text: "1"}}, {{Kind: api.Attr, Text: "{}k"}}, {{Kind: api.Attr, Text: "k", Val: "\xff"}}, {{Kind: api.Attr, Text: "k", Val: times(49, "v")}}, {{Kind: api.Attr, Text: "k", Kids: []api.Node{text}}},
		{{Kind: api.Elem, Text: "e f"}}, {{Kind: api.Elem, Text: "{u}"}}, {{Kind: api.Elem, Text: "e", Val: "v"}},
	} {
		printer.NoTree(t, elem(kids...), api.ErrEvents)
		printer.NoTree(t, elem(attr, elem(kids...)), api.ErrEvents)
		printer.NoTree(t, api.Node{Kind: api.Map, Kids: []api.Node{{Kind: api.Key, Text: "a", Kids: []api.Node{elem(kids...)}}}}, api.ErrEvents)
	}
	deep := elem(text)
	for range 6 {
		deep = elem(attr, deep)
	}
	printer.NoTree(t, deep, api.ErrDepth)
	printer.NoTree(t, elem(attr, elem(attr), elem(attr, attr)), api.ErrTwice)
}

// TestApart holds that what is handed in stays as it is, and shares no memory with
// what is printed.
func TestApart(t *testing.T) {
	printer.Spare(t, `[ 1 { "a": [ "x" ] "b": null } [ [ ] ] ]`)
	printer.Spare(t, `{ "a": <e @k="v" @l="w" "x" <f <g > > > "b": <e > "c": <e <f > > }`)
	for _, written := range []string{"12345", "true", `"x"`} {
		n := trees.Read(written)
		if text, _, _ := inkparen.Print(n); unsafe.StringData(text) == unsafe.StringData(n.Text) {
			t.Error(written)
		}
	}
}

// TestWide holds lists and elements with very many Kids.
func TestWide(t *testing.T) {
	const many = 100000
	wide := api.Node{Kind: api.List, Kids: slices.Repeat([]api.Node{trees.Read(`{ "a": 1 }`)}, many)}
	if text, e := printer.Check(t, wide); e != api.OK || text != "("+times(many-1, `#("a" 1) `)+`#("a" 1))` {
		t.Error(e, len(text))
	}
	wide = api.Node{Kind: api.Elem, Text: "e", Kids: slices.Repeat(trees.Read(`<e "x" <f > >`).Kids, many)}
	if text, e := printer.Check(t, wide); e != api.OK || text != `#<"e"`+times(many, ` "x" #<"f")`)+")" {
		t.Error(e, len(text))
	}
	wide.Kids[2*many-1] = trees.Read("1")
	printer.NoTree(t, wide, api.ErrEvents)
}

// TestNearlySame holds that trees that differ in one place have different texts.
func TestNearlySame(t *testing.T) {
	for _, l := range [][]string{
		{"null", `"null"`, `"#n"`, "true", "false", `"#t"`, "1", `"1"`, "-1", "1e1", "1e-1", `""`, `" "`, `"  "`, "[ ]", `"()"`, "{ }", `"#()"`, "<e >", `"e"`, "[ [ ] ]", "[ { } ]", "[ <e > ]", "[ null ]", `[ "" ]`, `"\""`, `"\\"`, `"\\\""`, `"\n"`, `"n"`, `"\\n"`},
		{"[ 1 2 ]", "[ 12 ]", "[ 2 1 ]", "[ 1 ]", "[ 1 2 2 ]", "[ 1 [ 2 ] ]", "[ [ 1 ] 2 ]", "[ [ 1 2 ] ]", "[ 1 2 [ ] ]", "[ 1 2 null ]", `[ 1 "2" ]`, "[ 1 -2 ]"},
		{`[ "a" "b" ]`, `[ "a b" ]`, `[ "a\" \"b" ]`, `[ "ab" ]`, `[ "a" "b" "" ]`, `{ "a": "b" }`, `[ { "a": "b" } ]`, `<a "b" >`, `<a @b="" >`, `[ <a "b" > ]`},
		{`{ "a": 1 "b": 2 }`, `{ "b": 2 "a": 1 }`, `{ "a": 2 "b": 2 }`, `{ "a": 1 "c": 2 }`, `{ "a": 1 "B": 2 }`, `{ "a": 1 }`, `{ "a": 1 "b": "2" }`, `{ "a": { "b": 2 } }`, `{ "a": [ 1 ] "b": 2 }`, `{ "a b": 1 "": 2 }`, `{ "a\" 1 \"b": 2 }`, `{ "a": 1 "b ": 2 }`, `[ "a" 1 "b" 2 ]`},
		{"<e >", "<f >", "<E >", "<{u}e >", "<{v}e >", "<{u}f >", `<e @k="v" >`, `<e @{u}k="v" >`, `<e @k="w" >`, `<e @K="v" >`, `<e @k="" >`, `<e @k="v " >`, `<e "k" >`, `<e @k="v" "k" >`, `<e @k="k" "v" >`, `<e @k="v" "v" >`},
		{`<e @a="b" @c="d" >`, `<e @c="d" @a="b" >`, `<e @a="d" @c="b" >`, `<e @a="b" @d="d" >`, `<e @a="b\" @\"c\" \"d" >`, `<e @a="b" "c" >`, `<e @a="b" "@c" >`, `<e @a="b" <c @c="d" > >`},
		{`<e "x" >`, `<e "y" >`, `<e "x" <f > >`, `<e <f > "x" >`, `<e <f "x" > >`, `<e <f > >`, `<e <f > <f > >`, `<e <f <f > > >`, `<e "x" <f > "x" >`, `<e "x\" \"x" >`, `<e "x " >`, `[ <e "x" > ]`, `{ "": <e "x" > }`},
	} {
		printer.Differ(t, model, l...)
	}
}
