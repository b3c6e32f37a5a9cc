package carry_test

import (
	"strings"
	"testing"

	"hexapla/api"
)

func TestSections(t *testing.T) {
	good(t, api.Sections, "{ }", `{ "a": true "b": 1 "": "" "a b": [ ] }`, `{ "a": { } }`, `{ "a": { } "b": { } }`, `{ "a": [ { } ] "b": { } "c": [ { } { } ] }`, `{ "a": 1 "b": { "c": 1 "d": { } } "e": { "c": [ 1 { } ] } }`,
		`{ "a": [ [ { "b": 1 } ] ] "b": [ 1 { "c": { } "d": 1 } ] }`, `{ "a": [ { "b": 1 "c": { } } { "b": { } "c": [ { } ] } { } ] }`, "{ "+fields(10, "1")+"}", "{ "+fields(10, "{ "+fields(10, "{ }")+"}")+"}",
		times(6, `{ "k":`)+"1 "+times(6, "}"), times(5, `{ "k":`)+"{ } "+times(5, "}"), times(3, `{ "k": [`)+times(3, "] }"), times(2, `{ "k": [ { } { "l": 1 } `)+times(2, "] }"))
}

// TestSectionsRoot holds that the root must be a Map.
func TestSectionsRoot(t *testing.T) {
	bad(t, api.Sections, "^null", "^true", "^1", `^"x"`, "^[ ]", `^[ { "a": 1 } ]`, "^[ null ]", "^<e >", `^<e "x" >`)
}

// TestSectionsNulls holds a Null, and an Elem, at each place.
func TestSectionsNulls(t *testing.T) {
	for _, value := range []string{"null", "<e >", `<e @k="v" "x" >`} {
		for _, marked := range []string{
			`{ "a": ^~ }`, `{ "b": 1 "a": ^~ "c": ~ }`, `{ "a": [ ^~ ] }`, `{ "a": [ 1 [ ] ^~ ~ ] }`, `{ "a": [ [ 1 ^~ ] ] }`, `{ "a": [ { } ^~ ] }`, `{ "a": [ ^~ { } ] }`, `{ "a": [ 1 { "b": ^~ } ] }`,
			`{ "a": [ [ { "b": 1 "c": ^~ } ] ~ ] }`, `{ "a": { "b": ^~ } }`, `{ "a": { "b": 1 "c": { "d": ^~ } } "e": ~ }`, `{ "a": [ { "b": ^~ } ] }`, `{ "a": [ { "b": 1 } { "b": ^~ } ] "b": ~ }`,
			`{ "a": [ { "b": [ { } { "c": ^~ } ] } ] }`, `{ "a": 1 "b": { } "c": [ { } ] "d": [ { "e": 1 "f": ^~ } ] }`, `{ "": ^~ }`,
		} {
			bad(t, api.Sections, strings.ReplaceAll(marked, "~", value))
		}
	}
}

// TestSectionsOrder holds flat fields behind deep ones.
func TestSectionsOrder(t *testing.T) {
	for _, flat := range []string{"1", "true", `"x"`, "[ ]", "[ 1 ]", "[ { } 1 ]", "[ 1 { } ]", "[ [ { } ] ]", "null", "<e >", `<e "x" >`, "[ { } <e > ]", sized(200)} {
		for _, deep := range []string{"{ }", `{ "a": 1 }`, "[ { } ]", `[ { "a": 1 } { } ]`, `{ "a": { } }`} {
			if flat != sized(200) && flat != "null" && !strings.Contains(flat, "<e") {
				good(t, api.Sections, `{ "b": `+flat+` "a": `+deep+" }", `{ "a": { "b": `+flat+` "a": `+deep+` } "c": { "b": `+flat+" } }", `{ "a": [ { "a": `+deep+` } { "b": `+flat+" } ] }")
			}
			bad(t, api.Sections, `{ "a": `+deep+` ^"b": `+flat+" }", `{ "c": 1 "a": `+deep+` "d": { } ^"b": `+flat+` "e": 1 }`, `{ "d": [ { } ] "a": `+deep+` ^"b": `+flat+" }",
				`{ "c": 1 "a": { "a": `+deep+` ^"b": `+flat+" } }", `{ "a": [ { "a": 1 } { "a": `+deep+` ^"b": `+flat+" } ] }", `{ "a": [ { "a": `+deep+` ^"b": `+flat+` } ] "b": 1 }`)
		}
	}
}

// TestSectionsFlat holds the longest lines of flat fields, at each depth.
func TestSectionsFlat(t *testing.T) {
	for _, around := range [][2]string{
		{"", ""}, {`{ "a": `, " }"}, {`{ "a": { "b": `, ` } "c": { } }`}, {`{ "a": [ `, ` { "a": 1 } ] }`}, {`{ "a": [ { } `, " ] }"}, {"{ " + sizedKey(156) + " [ ", " ] }"},
	} {
		for marked, others := range map[string]int{
			`{ ^"k": ~ }`: 4, `{ "j": 1 ^"key": ~ "l": { } }`: 6, `{ ^"a.b": ~ }`: 8, `{ ^"": ~ }`: 5, `{ ^"k": [ ~ ] }`: 6, `{ ^"k": [ 1 ~ [ ] ] }`: 13, `{ ^"k": [ { } ~ ] }`: 10, `{ ^"k": [ [ { "l": ~ } ] ] }`: 4 + 10, `{ ^"k": [ "\n" ~ ] }`: 6 + 6,
		} {
			edge(t, api.Sections, around[0]+marked+around[1], sized, 160-others)
		}
		for marked, others := range map[string]int{
			`{ ^~ 1 }`: 4, `{ ^~ true }`: 7, `{ ^~ [ ] }`: 5, `{ ^~ -1e999 }`: 9, `{ ^~ "" }`: 5, `{ ^~ [ 1 ] }`: 6, `{ ^~ [ 1 { } ] }`: 10, `{ ^~ [ { "a": 1 } [ ] ] }`: 16,
		} {
			edge(t, api.Sections, around[0]+marked+around[1], sizedKey, 160-others)
		}
	}
	edge(t, api.Sections, `{ "a": [ { "b": { "c": { ^"k": ~ } } } ] }`, sized, 160-4)
	edge(t, api.Sections, `{ "a": [ { "b": { "c": { ^"k": [ ~ ] } } } ] }`, sized, 160-6)
}

// TestSectionsFlatElem holds that a field's line may be too long if an Elem, which
// is told then, is in its value, while a Null is no such cause.
func TestSectionsFlatElem(t *testing.T) {
	long, key := sized(200), sizedKey(200)
	bad(t, api.Sections, "{ "+key+" ^<e > }", "{ "+key+" [ ^<e > ] }", `{ "a": [ `+long+" ^<e > ] }", `{ "a": [ `+long+" ^null <e > ] }", `{ "a": [ [ { } `+long+` ] { "b": [ ^<e > ] } ] }`, "{ ^"+key+" [ "+long+" ] "+` "a": <e > }`,
		`{ "b": { } ^"a": [ `+long+" <e > ] }", "{ ^"+key+" null }", `{ ^"a": [ `+long+" null ] }", `{ ^"a": [ null `+long+" ] }", `{ ^"a": `+long+` "b": null }`)
}

// TestSectionsDeep holds the longest paths of tables and of rows, at each depth.
func TestSectionsDeep(t *testing.T) {
	for _, deep := range []struct {
		value  string
		around int
	}{{"{ }", 2}, {`{ "a": 1 }`, 2}, {"[ { } ]", 4}, {`[ { "a": 1 } { } ]`, 4}} {
		for marked, others := range map[string]int{
			"{ ^~ # }": 0, `{ "a": 1 "b": { } ^~ # "c": { } }`: 0, `{ "a": { ^~ # } }`: 2, `{ "a": [ { ^~ # } ] }`: 2, `{ "abc": { "d": 1 ^~ # } }`: 4, `{ "a.b": { ^~ # } }`: 6, `{ "": { ^~ # } }`: 3,
			`{ "a": { "bc": { ^~ # } } }`: 5, `{ "a": { "bc": [ { } { "d": 1 ^~ # } ] } }`: 5, `{ "a": [ { } { "b": { ^~ # } } ] "c": { } }`: 4, `{ "abc": [ { } { "d": { } ^~ # } { } ] }`: 4,
			`{ "aa": { } "a": { "bb": { } ^~ # } }`: 2, `{ "a": { "b": { "c": { ^~ # } } } }`: 6, // a long key of the field itself
			`{ ~ { ^"b": # } }`: 2, `{ "a": { } ~ { "b": 1 ^"cd": # "e": { } } }`: 3, `{ ~ [ { "a": { } ^"bcd": # } ] }`: 4, `{ "a": { ~ { "b": { ^"c": # } } } }`: 6, `{ ~ [ { } { "bcd": { ^"": # } } ] }`: 7, // or around it
		} {
			edge(t, api.Sections, strings.ReplaceAll(marked, "#", deep.value), sizedKey, 160-others-deep.around)
		}
	}
}

// TestSectionsDeepOrder holds that a field comes ahead of what is in it, and that
// ahead of what follows it.
func TestSectionsDeepOrder(t *testing.T) {
	long, key := sized(200), sizedKey(200)
	bad(t, api.Sections, "{ ^"+key+` { "a": null } }`, "{ ^"+key+` { "a": { } "b": 1 } }`, "{ ^"+key+" [ { "+key+" { } } ] }", `{ "a": { "b": ^null } `+key+" { } }", `{ "a": { "c": { } ^"b": 1 } "d": 1 }`,
		`{ "a": [ { "b": 1 } { ^"b": `+long+` } ] "c": null }`, `{ "a": { "b": { } } ^`+key+" [ { } ] }", `{ "a": [ { "b": { } ^"c": null } { "c": <e > } ] }`)
}
