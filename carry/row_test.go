package carry_test

import (
	"strings"
	"testing"

	"hexapla/api"
	"hexapla/carry"
	"hexapla/trees"
)

// checkRow holds the one-line form of a node, or the error of it, and that the
// node stays as it is.
func checkRow(t *testing.T, n api.Node, want string, wantErr api.Errno) {
	t.Helper()
	before := trees.Written(n)
	if row, e := carry.Row(n); row != want || e != wantErr {
		t.Errorf("%s: %q %v, not %q %v", before, row, e, want, wantErr)
	}
	if after := trees.Written(n); after != before {
		t.Errorf("%s became %s", before, after)
	}
}

func TestRow(t *testing.T) {
	for written, want := range map[string]string{
		"null": "null", "true": "true", "false": "false", "0": "0", "-15e-1": "-15e-1", "1e999": "1e999", `""`: `""`, `"x"`: `"x"`, `"null"`: `"null"`, `"a\"\\\n\x01é"`: `"a\"\\\n\u0001é"`,
		"[ ]": "[]", "{ }": "{}", "[ 1 ]": "[1]", "[ 1 2 3 ]": "[1, 2, 3]", "[ null true \"a, b\" -1 ]": `[null, true, "a, b", -1]`, "[ [ ] { } ]": "[[], {}]",
		"[ [ [ 1 ] 2 ] [ 3 ] ]": "[[[1], 2], [3]]", `{ "a": 1 }`: "{a = 1}", `{ "a": 1 "b": "x" "c": null }`: `{a = 1, b = "x", c = null}`,
		`{ "a b": [ 1 "x" ] }`: `{"a b" = [1, "x"]}`, `{ "": { "": [ ] } }`: `{"" = {"" = []}}`, `{ "a.b": true "a-b": false }`: `{"a.b" = true, a-b = false}`,
		`[ { "a": { } "b": [ { } ] } { } ]`: "[{a = {}, b = [{}]}, {}]", `{ "b": 1 "a": 2 }`: "{b = 1, a = 2}", `{ "null": "" "\n": 1e1 }`: `{null = "", "\n" = 1e1}`,
		times(6, "[") + times(6, "]"): "[[[[[[]]]]]]", times(6, `{ "k":`) + "null " + times(6, "}"): "{k = {k = {k = {k = {k = {k = null}}}}}}",
	} {
		checkRow(t, trees.Read(written), want, api.OK)
	}
	checkRow(t, trees.Read("[ "+times(1000, `"x"`)+"]"), "["+strings.Repeat(`"x", `, 999)+`"x"]`, api.OK)
}

// TestRowOfElems holds that an Elem has no form, at any depth.
func TestRowOfElems(t *testing.T) {
	for _, written := range []string{"<e >", "<e @k=\"v\" \"x\" >", "<{u}e <e > >"} {
		for depth := range 6 {
			for _, l := range [][2]string{{"[ ", "] "}, {`{ "a": `, "} "}, {"[ 1 [ ] ", "null ] "}, {`{ "b": { } "a": `, `"c": [ ] } `}} {
				if !strings.Contains(written, "<e > >") || depth < 5 {
					checkRow(t, trees.Read(strings.Repeat(l[0], depth)+written+" "+strings.Repeat(l[1], depth)), "", api.ErrCannotCarry)
				}
			}
		}
	}
}

// TestRowOfNoTrees holds the errors of tree.May, also ahead of that of an Elem.
func TestRowOfNoTrees(t *testing.T) {
	elem := api.Node{Kind: api.Elem, Text: "e"}
	for _, l := range trees.Wrongs() {
		checkRow(t, l.Node, "", l.Err)
		checkRow(t, api.Node{Kind: api.List, Kids: []api.Node{elem, l.Node}}, "", l.Err)
		checkRow(t, api.Node{Kind: api.List, Kids: []api.Node{l.Node, elem}}, "", l.Err)
	}
}
