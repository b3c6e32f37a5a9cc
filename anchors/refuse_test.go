package anchors_test

import (
	"fmt"
	"strings"
	"testing"

	"hexapla/api"
)

// TestOneRefuses holds that no name takes an event that another one can't, in
// whichever order the names are.
func TestOneRefuses(t *testing.T) {
	for _, l := range []struct {
		outer   string // stored under the outer name only
		refused string
		inner   string // what completes the inner name's value, if anything does
		end     string // what completes the outer name's value behind it
	}{
		{"[", "] } >", "1", "]"}, // the outer name could go on, the inner one can't
		{"<e", `> @a="v"`, "<f >", ">"},
		{`{ "k": 1`, `} "l":`, "", ""},
		{"{", `"k": } null "x" [ { <e`, "", ""}, // the inner name could go on, the outer one can't
		{"<e", `null 1 true "" [ {`, `"x"`, ">"},
		{`<e "x"`, `"x" "y" ""`, "<f >", ">"},
		{times(6, "["), "[ { <e", "null", times(6, "]")},
		{times(6, "<e"), "<e", `"x"`, times(6, ">")},
		{times(4, "[") + `[ { "k":`, "[ { <e", "true", "} " + times(5, "]")},
	} {
		for _, names := range [][]string{{"a", "b", "c"}, {"b", "c", "a"}, {"c", "a", "b"}, {"c", "b", "a"}} {
			r := newRig(t)
			r.opens(names[0])
			r.steps(1, l.outer)
			r.opens(names[1:]...)
			for range 2 {
				r.refuses(api.ErrEvents, l.refused)
				r.lacks(api.ErrAnchor, names...)
			}
			if l.inner == "" {
				continue
			}
			r.steps(3, l.inner)
			r.gets(names[1], l.inner)
			r.gets(names[2], l.inner)
			r.steps(1, l.end)
			r.gets(names[0], l.outer, l.inner, l.end)
		}
	}
}

// fields returns how n fields, or attributes, are written.
func fields(n int, format string) string {
	var out strings.Builder
	for i := range n {
		fmt.Fprintf(&out, format+" ", i)
	}
	return out.String()
}

// TestReasons holds that each error of events.Check is ErrEvents here, and that
// what is refused changes nothing.
func TestReasons(t *testing.T) {
	for _, l := range []struct{ ahead, refused, end string }{
		{"", anything, "null"}, // not allowed for the kind, or not there
		{"", `?1"x""" ?1"""v" ?2"""" ?2"True""" ?2"true""v" ?3"""" ?3"01""" ?3"1e1000""" ?3"1""v" ?4"x""v" ?10"""" ?10"1""" ?10"e""v"`, "[ ]"},
		{"[", `?5"x""" ?6"x""" ?6"""v" "k": @a="v" } >`, "]"},
		{"{", `?9"x""" ?8"k""v" ?8"\xff""" null "x" [ { <e ] > @a="v"`, "}"},
		{`{ "k":`, `"k": "l": ] } > @a="v"`, "null }"},
		{"<e", `?11"a""\xff" ?11"1""v" ?12"x""" null 1 "" [ { ] } "k":`, ">"},
		{`<e "x"`, `"y" "" @a="v" null`, "<f > >"},
		{"[", "?4" + word(49) + `"" ?4` + word(5000) + `""`, word(48) + " ]"},
		{times(6, "["), "[ { <e", `null "x" ` + times(6, "]")}, // ErrDepth
		{times(5, "[") + `{ "k":`, "[ { <e", `null } ` + times(5, "]")},
		{times(6, "<e"), "<e <f", `"x" ` + times(6, ">")},
		{`{ "k": null "l": [ 1 ]`, `"k": "l":`, `"m": null }`}, // ErrTwice
		{`<e @a="v" @b="w"`, `@a="v" @a="w" @b="v"`, `@{u}a="v" >`},
		{"{ " + fields(10, `"%d": 0`), `"0": "9": "x":`, "}"}, // ErrFields
		{"<e " + fields(10, `@a%d=""`), `@a0="" @a9="v" @x="v"`, ">"},
	} {
		r := newRig(t)
		r.opens("a")
		r.steps(1, l.ahead)
		for range 2 {
			r.refuses(api.ErrEvents, l.refused)
			r.lacks(api.ErrAnchor, "a")
			r.shuts(api.ErrTwice, "a")
		}
		r.steps(1, l.end)
		r.gets("a", l.ahead, l.end)
		r.steps(0, l.refused)
	}
}

// TestReasonsWithin holds the same of names within one another.
func TestReasonsWithin(t *testing.T) {
	r := newRig(t)
	r.opens("b")
	r.steps(1, `{ "k": null "l":`)
	r.opens("a", "c")
	r.refuses(api.ErrEvents, anything)
	r.steps(3, `{ "k":`)
	r.refuses(api.ErrEvents, anything)
	r.steps(3, "1")
	r.refuses(api.ErrEvents, `"k": null ]`)
	r.steps(3, `"l": true }`)
	r.refuses(api.ErrEvents, `"k": "l": null [ ]`) // what is known is out of it
	r.steps(1, `"m": [ ] }`)
	r.gets("a", `{ "k": 1 "l": true }`)
	r.gets("b", `{ "k": null "l": { "k": 1 "l": true } "m": [ ] }`)
	r.gets("c", `{ "k": 1 "l": true }`)
}
