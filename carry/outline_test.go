package carry_test

import (
	"testing"

	"hexapla/api"
)

func TestOutline(t *testing.T) {
	good(t, api.Outline, "null", "true", "-1e9", `""`, "[ ]", "{ }", "[ null ]", `{ "a": { } "b": 1 }`, `{ "": null "a b": [ { } [ ] ] }`, "[ 1 { \"a\": [ ] } [ ] ]", "{ "+fields(10, "null")+"}",
		times(6, "[")+times(6, "]"), times(6, `{ "k":`)+"1 "+times(6, "}"), "[ "+times(200, `"x"`)+"]")
	bad(t, api.Outline, "^<e >", `^<e @k="v" "x" >`, "^<e <e > >", "[ ^<e > ]", "[ 1 ^<e "+sized(200)+" > <e > ]", `{ "a": ^<e > }`, `{ "a": null "b": ^<e > "c": <e > }`,
		"{ "+sizedKey(200)+" ^<e > }", times(5, "[")+"^<e > "+times(5, "]"), times(5, `{ "k":`)+"^<e > "+times(5, "}"))
}

// TestOutlineRoot holds a scalar that is alone on its line, and others that are
// on none.
func TestOutlineRoot(t *testing.T) {
	edge(t, api.Outline, "^~", sized, 160)
}

// TestOutlineLines holds the longest lines within one to six lists and maps, in
// all orders of them.
func TestOutlineLines(t *testing.T) {
	for depth := range 6 {
		for kinds := range 1 << depth {
			open, shut := "", ""
			for i := range depth {
				if kinds>>i&1 == 1 {
					open, shut = open+`{ "b": 1 "a": `, "} "+shut
				} else {
					open, shut = open+"[ 2 ", "null ] "+shut
				}
			}
			for before, after := range map[string]string{"": "", "1 ": "null "} {
				edge(t, api.Outline, open+"[ "+before+"^~ "+after+"] "+shut, sized, 160-2*depth-2)
			}
			edge(t, api.Outline, open+`{ "key": ^~ } `+shut, sized, 160-2*depth-5)
			edge(t, api.Outline, open+`{ "c": 1 "a.b": ^~ "d": 2 } `+shut, sized, 160-2*depth-7)
			for _, value := range []string{"null", "true", "false", "12345", "-1e999", `"ab"`, `"\n"`, `"é"`} {
				length := map[string]int{"null": 4, "true": 4, "false": 5, "12345": 5, "-1e999": 6}[value]
				edge(t, api.Outline, open+"{ ~ ^"+value+" } "+shut, sizedKey, 160-2*depth-2-max(4, length))
			}
			edge(t, api.Outline, open+`{ ~ ^"" } `+shut, sizedKey, 160-2*depth-4)
			if depth < 5 {
				edge(t, api.Outline, open+"{ ~ ^[ ] } "+shut, sizedKey, 160-2*depth-4)
				edge(t, api.Outline, open+"{ ~ ^{ } } "+shut, sizedKey, 160-2*depth-4)
				edge(t, api.Outline, open+"{ ~ ^[ 1 ] } "+shut, sizedKey, 160-2*depth-1)
				edge(t, api.Outline, open+`{ ~ ^{ "a": 1 } } `+shut, sizedKey, 160-2*depth-1)
			}
		}
	}
}

// TestOutlineBlocks holds that the contents of a block are on lines of their own.
func TestOutlineBlocks(t *testing.T) {
	long, key := sized(150), sizedKey(75)
	good(t, api.Outline, "[ "+times(20, long)+"]", "{ "+key+" [ "+long+" "+long+" ] }", "{ "+key+" { "+key+" { "+key+" { "+key+" "+sized(75)+" } } } }", "[ [ [ [ [ [ "+sized(148)+" ] ] ] ] ] ]")
}

// TestOutlineOrder holds that a value comes ahead of what is in it, and that
// ahead of what follows it.
func TestOutlineOrder(t *testing.T) {
	long, key := sized(200), sizedKey(200)
	bad(t, api.Outline, "{ "+key+" ^[ "+long+" <e > ] }", "{ "+key+" ^{ "+key+" "+long+" } "+`"b": <e > }`, "[ [ ^"+long+" ] <e > ]", "[ [ ^<e > ] "+long+" ]", "[ ^"+long+" "+long+" ]",
		`{ "a": [ 1 ^`+long+" ] "+key+" <e > }", `{ "a": ^`+long+" "+key+" 1 }", "[ ^<e "+long+" > "+long+" ]")
}
