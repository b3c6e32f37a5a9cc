package carry_test

import (
	"testing"

	"hexapla/api"
)

func TestDelim(t *testing.T) {
	good(t, api.Delim, "[ ]", `[ { "a": "x" } ]`, `[ { "a": "" } { "a": "y" } ]`, `[ { "a": "1" "b": "\n\"," } { "a": "\x00" "b": "" } { "a": "" "b": "é" } ]`, `[ { "": "" } { "": "" } ]`,
		`[ { "b": "" "a": "" } { "b": "" "a": "" } ]`, "[ { "+sizedKey(260)+" "+sized(260)+" } ]", `[ `+times(500, `{ "a": "x" }`)+"]")
}

// TestDelimRoot holds that the root must be a List.
func TestDelimRoot(t *testing.T) {
	bad(t, api.Delim, "^null", "^true", "^1", `^"x"`, "^{ }", `^{ "a": "x" }`, `^{ "a": { "a": "x" } }`, "^<e >", `^<e "x" >`, `^<e @a="x" >`)
}

// TestDelimRows holds what is no Map, at the first place and behind others.
func TestDelimRows(t *testing.T) {
	for _, value := range []string{"null", "true", "1", `"x"`, "[ ]", `[ "a" ]`, `[ { "a": "x" } ]`, "<e >", `<e @a="x" >`, "{ }"} {
		bad(t, api.Delim, "[ ^"+value+" ]", "[ ^"+value+" "+value+" ]", "[ ^"+value+` { "a": "x" } ]`, `[ { "a": "x" } ^`+value+" ]", `[ { "a": "x" } { "a": "x" } ^`+value+" { } ]")
	}
}

// TestDelimColumns holds up to ten fields, in the first row and in another one.
func TestDelimColumns(t *testing.T) {
	for n := 1; n <= 10; n++ {
		row := "{ " + fields(n, `"x"`) + "} "
		if n <= 8 {
			good(t, api.Delim, "[ "+row+"]", "[ "+row+row+row+"]")
		} else {
			bad(t, api.Delim, "[ ^"+row+"]", "[ ^"+row+row+"]")
		}
		for m := range 11 {
			if other := "{ " + fields(m, `"x"`) + "} "; n <= 8 && m != n {
				bad(t, api.Delim, "[ "+row+"^"+other+"]", "[ "+row+row+"^"+other+row+"]")
			}
		}
	}
	bad(t, api.Delim, "[ ^{ "+fields(9, "1")+"} ]", "[ { "+fields(8, `"x"`)+"} ^{ "+fields(10, `1`)+"} ]")
}

// TestDelimKeys holds other keys, and the same ones in another order.
func TestDelimKeys(t *testing.T) {
	for _, other := range []string{
		`{ "b": "x" }`, `{ "a": "x" }`, `{ "b": "x" "a": "x" }`, `{ "a": "x" "c": "x" }`, `{ "a": "x" "B": "x" }`, `{ "A": "x" "b": "x" }`, `{ "a": "x" "": "x" }`, `{ "a": "x" "b ": "x" }`,
		`{ "a": "x" "b": "x" "c": "x" }`, `{ "c": "x" "a": "x" "b": "x" }`, `{ "a": "x" "c": "x" "b": "x" }`,
	} {
		row := `{ "a": "x" "b": "y" } `
		bad(t, api.Delim, "[ "+row+"^"+other+" ]", "[ "+row+row+"^"+other+" "+row+"null ]")
		bad(t, api.Delim, "[ "+other+" ^"+row+"]", "[ "+other+" "+other+" ^"+row+"]")
	}
}

// TestDelimCells holds what is no Text, in each row and each column.
func TestDelimCells(t *testing.T) {
	for _, cell := range []string{"null", "true", "false", "1", "[ ]", `[ "x" ]`, "{ }", `{ "a": "x" }`, "<e >", `<e "x" >`} {
		bad(t, api.Delim, `[ { "a": ^`+cell+" } ]", `[ { "a": "x" "b": ^`+cell+` "c": null } ]`, `[ { "a": "x" } { "a": ^`+cell+` } { "a": null } ]`,
			`[ { "a": "x" "b": "y" } { "a": "x" "b": ^`+cell+" } ]")
	}
}

// TestDelimOrder holds that a row comes ahead of its cells, and these ahead of
// the next row.
func TestDelimOrder(t *testing.T) {
	bad(t, api.Delim, `[ { "a": ^1 } { "b": "x" } ]`, `[ { "a": "x" } ^{ "b": 1 } ]`, `[ { "a": "x" } { "a": ^1 } null ]`, "[ ^null { } ]", "[ ^{ } null ]",
		`[ { "a": ^[ null ] "b": 1 } null ]`, "[ ^{ "+fields(9, "null")+"} ]", `[ { "z": ^null `+fields(7, "1")+"} null ]")
}
