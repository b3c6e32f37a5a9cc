package inkbrace_test

import (
	"slices"
	"strconv"
	"testing"
	"unsafe"

	"hexapla/api"
	"hexapla/inkbrace"
	"hexapla/texts"
	"hexapla/trees"
)

func TestScalars(t *testing.T) {
	printer.Goods(t, map[string]string{"null": "null", "true": "true", "false": "false"})
	for _, form := range []string{"0", "1", "-1", "12", "1e1", "15e-1", "-15e-1", "1e999", "-1e-999", "123456789", times(30, "1"), "-" + times(29, "9")} {
		printer.Good(t, form, form)
	}
}

// TestTexts holds texts and keys.
func TestTexts(t *testing.T) {
	for _, l := range texts.Printed() {
		quoted := strconv.Quote(l.Text)
		printer.Good(t, quoted, l.Want)
		printer.Good(t, "{ "+quoted+": [ "+quoted+" ] }", "{"+l.Want+":["+l.Want+"]}")
	}
}

func TestLists(t *testing.T) {
	printer.Goods(t, map[string]string{
		"[ ]": "[]", "[ null ]": "[null]", "[ 1 2 3 ]": "[1,2,3]", `[ null true false -15e-1 "a b" ]`: `[null,true,false,-15e-1,"a b"]`, `[ "" "" ]`: `["",""]`, `[ 1 1 ]`: "[1,1]",
		"[ null true { } [ ] ]": "[null,true,{},[]]", "[ [ 1 ] 2 [ ] [ [ 3 4 ] ] ]": "[[1],2,[],[[3,4]]]", `[ { "a": 1 } { "a": 1 } ]`: `[{"a":1},{"a":1}]`,
		"[ " + times(99, "1 ") + "2 ]": "[" + times(99, "1,") + "2]",
	})
}

func TestMaps(t *testing.T) {
	printer.Goods(t, map[string]string{
		"{ }": "{}", `{ "a": null }`: `{"a":null}`, `{ "a": [ 1 "x" ] }`: `{"a":[1,"x"]}`, `{ "b": 1 "a": true "B": "a" }`: `{"b":1,"a":true,"B":"a"}`, `{ "a": { } "b": [ ] }`: `{"a":{},"b":[]}`,
		`{ "a-_1": 1 "a.b": 2 "": 3 "a b": 4 "1": 5 "{u}a": 6 "é": 7 "null": 8 }`: `{"a-_1":1,"a.b":2,"":3,"a b":4,"1":5,"{u}a":6,"é":7,"null":8}`, `{ "\"": 1 "\n": 2 "\\": 3 }`: `{"\"":1,"\n":2,"\\":3}`,
		`{ "a": { "a": { "b": 1 "a": 2 } "b": 3 } "b": 4 }`: `{"a":{"a":{"b":1,"a":2},"b":3},"b":4}`, `{ "a": [ { "a": [ ] } ] "b": [ { } ] }`: `{"a":[{"a":[]}],"b":[{}]}`,
		`{ "j": 0 "i": 1 "h": 2 "g": 3 "f": 4 "e": 5 "d": 6 "c": 7 "b": 8 "a": 9 }`: `{"j":0,"i":1,"h":2,"g":3,"f":4,"e":5,"d":6,"c":7,"b":8,"a":9}`,
	})
}

// TestDeep holds lists and maps within each other, as deep as a document may be.
func TestDeep(t *testing.T) {
	scalars := map[string]string{"1": "1", "null": "null", `"x"`: `"x"`}
	for n := range 7 {
		deep(t, n, scalars)
	}
	for n := range 6 {
		deep(t, n, map[string]string{"[ ]": "[]", "{ }": "{}", `[ 1 "x" ]`: `[1,"x"]`, `{ "a": true }`: `{"a":true}`})
	}
}

// deep holds the texts of trees within n lists and maps.
func deep(t *testing.T, n int, values map[string]string) {
	t.Helper()
	for written, want := range values {
		printer.Goods(t, map[string]string{
			times(n, "[ ") + written + times(n, " ]"):                      times(n, "[") + want + times(n, "]"),
			times(n, `{ "k": `) + written + times(n, " }"):                 times(n, `{"k":`) + want + times(n, "}"),
			times(n, "[ 0 ") + written + times(n, " 1 ]"):                  times(n, "[0,") + want + times(n, ",1]"),
			times(n, `{ "k": 0 "l": `) + written + times(n, ` "m": 1 }`):   times(n, `{"k":0,"l":`) + want + times(n, `,"m":1}`),
			times(n/2, `[ { "k": `) + written + times(n/2, " } ]"):         times(n/2, `[{"k":`) + want + times(n/2, "}]"),
			times(n/2, `{ "k": [ 0 `) + written + times(n/2, ` ] "": 1 }`): times(n/2, `{"k":[0,`) + want + times(n/2, `],"":1}`),
		})
	}
}

// TestElems holds that an Elem is not printed, at the root and at any depth.
func TestElems(t *testing.T) {
	printer.Bad(t, "^<e >", `^<e @k="v" "x" >`, "^<e <e > >", "^<{u}e >", "[ ^<e > <e > ]", `[ 1 "x" ^<e > ]`, `{ "a": ^<e > }`, `{ "a": null "b": ^<e "x" > "c": <e > }`, `[ [ ] { } [ 1 { "a": 1 "b": [ "x" ^<e @k="" > ] } ] <e > ]`)
	for n := range 6 {
		printer.Bad(t, times(n, "[ ")+"^<e >"+times(n, " ]"), times(n, `{ "a": [ ] "k": `)+"^<e >"+times(n, ` "l": 1 }`), times(n/2, `[ 1 { "k": `)+"^<e >"+times(n/2, " } <f > ]"))
	}
}

func TestNoTrees(t *testing.T) { printer.NoTrees(t) }

func TestApart(t *testing.T) {
	printer.Spare(t, `[ 1 { "a": [ "x" ] "b": null } [ [ ] ] ]`)
	printer.Spare(t, `[ 1 { "a": [ <e @k="v" "x" > ] } 2 ]`)
	printer.Apart(t, `[ 1 { "a": [ ^<e @k="v" "x" > ] } 2 ]`)
	for _, written := range []string{"12345", "true", `"x"`} {
		n := trees.Read(written)
		if text, _, _ := inkbrace.Print(n); unsafe.StringData(text) == unsafe.StringData(n.Text) {
			t.Error(written)
		}
	}
}

// TestWide holds lists with very many values, of which the last one may be an Elem.
func TestWide(t *testing.T) {
	const many = 100000
	wide := api.Node{Kind: api.List, Kids: slices.Repeat([]api.Node{trees.Read(`{ "a": 1 }`)}, many)}
	if text, e := printer.Check(t, wide); e != api.OK || text != "["+times(many-1, `{"a":1},`)+`{"a":1}]` {
		t.Error(e, len(text))
	}
	wide.Kids[many-1] = trees.Read("<e >")
	if text, place, e := inkbrace.Print(wide); text != "" || !slices.Equal(place, []int{many - 1}) || e != api.ErrCannotCarry {
		t.Error(len(text), place, e)
	}
}

// TestNearlySame holds that trees that differ in one place have different texts.
func TestNearlySame(t *testing.T) {
	for _, l := range [][]string{
		{"null", `"null"`, "true", "false", `"true"`, "1", `"1"`, "-1", "1e1", "1e-1", `""`, `" "`, `"  "`, "[ ]", `"[]"`, "{ }", `"{}"`, "[ [ ] ]", "[ { } ]", "[ null ]", `[ "" ]`, `"\""`, `"\\"`, `"\\\""`, `"\n"`, `"n"`, `"\\n"`},
		{"[ 1 2 ]", "[ 12 ]", "[ 2 1 ]", "[ 1 ]", "[ 1 2 2 ]", "[ 1 [ 2 ] ]", "[ [ 1 ] 2 ]", "[ [ 1 2 ] ]", "[ 1 2 [ ] ]", "[ 1 2 null ]", `[ 1 "2" ]`, "[ 1 -2 ]"},
		{`[ "a" "b" ]`, `[ "a,b" ]`, `[ "a\",\"b" ]`, `[ "ab" ]`, `[ "a" "b" "" ]`, `{ "a": "b" }`, `[ { "a": "b" } ]`},
		{`{ "a": 1 "b": 2 }`, `{ "b": 2 "a": 1 }`, `{ "a": 2 "b": 2 }`, `{ "a": 1 "c": 2 }`, `{ "a": 1 "B": 2 }`, `{ "a": 1 }`, `{ "a": 1 "b": "2" }`, `{ "a": { "b": 2 } }`, `{ "a": [ 1 ] "b": 2 }`, `{ "a,b": 1 "": 2 }`, `{ "a\":1,\"b": 2 }`, `{ "a": 1 "b ": 2 }`},
	} {
		printer.Differ(t, model, l...)
	}
}
