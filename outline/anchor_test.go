package outline_test

import (
	"strings"
	"testing"

	"hexapla/api"
)

func TestAnchors(t *testing.T) {
	for _, l := range []struct {
		want  string
		lines []string
	}{
		{"1", []string{"&a 1"}},
		{"[ null ]", []string{"- &a"}},
		{"[ null ]", []string{"- &a   "}},
		{`{ "a": null "b": 2 }`, []string{"a: &a", "b: 2"}},
		{"[ 1 1 1 ]", []string{"- &a 1", "- *a", "- *a"}},
		{"[ null null ]", []string{"- &a", "- *a"}},
		{"[ null [ null ] ]", []string{"- &a", "- [*a]"}},
		{"[ [ 1 ] [ 1 ] ]", []string{"- &a", "  - 1", "- *a"}},
		{"[ [ 1 ] [ 1 ] ]", []string{"-  &a  ", "", "  # x", "  - 1", "-   *a  "}},
		{`{ "a": { "b": 1 } "c": [ { "b": 1 } { "k": { "b": 1 } } ] }`, []string{"a: &x", "  b: 1", `c: [*x,{"k":*x}]`}},
		{`{ "a": [ 1 { "k": null } ] "b": [ 1 { "k": null } ] }`, []string{`a: &k [1, {"k": null}]`, "b: *k"}},
		{"[ [ 1 [ 2 ] ] [ 2 ] [ 1 [ 2 ] ] 1 ]", []string{"- &a", "  - &b 1", "  - &c", "    - 2", "- *c", "- *a", "- *b"}},
		{"[ [ 1 1 ] [ 1 1 ] ]", []string{"- &a", "  - &b 1", "  - *b", "- *a"}}, // what is repeated is stored
		{"[ 1 1 1 ]", []string{"- &a 1", "- &b *a", "- *b"}},
		{`[ "x" "x" true ]`, []string{`- &A "x"`, "- *A", "- &a true"}},
		{"[ 1 2 1 2 ]", []string{"- &" + strings.Repeat("n", 16) + " 1", "- &" + strings.Repeat("n", 15) + "m 2", "- *" + strings.Repeat("n", 16), "- *" + strings.Repeat("n", 15) + "m"}},
		{"[ 1 1 2 2 ]", []string{"- &_-.9 1", "- *_-.9", "- &null 2", "- *null"}},
		{"[ [ [ null ] null ] [ [ null ] null ] ]", []string{"- &a", "  - &b", "    - &c", "  - *c", "- *a"}},
		{`{ "a": { "b": [ null ] } "c": [ null ] }`, []string{"a: &a", "  b: &b", "    -", "c: *b"}},
	} {
		good(t, lines(l.lines...), l.want)
	}
}

// TestNoAnchors holds what is no anchor, and what may not follow one.
func TestNoAnchors(t *testing.T) {
	last(t, "[", api.ErrSyntax, "- & ", "- &1", "- &-", "- &.", "- &\"", "- &&", "- &*", "- &a\t", "- &a[", "- &a\"", "- &a,", "- &a:", "- &a&", "- &a*", "- &a &", "- &a #", "- &a\x00", "- &a x")
	open(t, "[", "- &", "- &a *")
	open(t, `{ "k":`, "k: &", `"k": &`)
	last(t, "[ 1", api.ErrSyntax, "- 1 &", "- 1&")
	last(t, "[ [", api.ErrSyntax, "- [&", "- [ &")
	last(t, `[ { "k":`, api.ErrSyntax, `- {"k":&`, `- {"k": &`)
	syntax.Check(t, "&a", "", api.ErrSyntax, 2)
	syntax.Check(t, "- &a - 1", "[", api.ErrSyntax, 6)
	for _, more := range []string{"n", "1", ".", "_", "-"} {
		last(t, "[", api.ErrToken, "- &"+strings.Repeat("n", 16)+more, "- *"+strings.Repeat("n", 16)+more)
		syntax.Check(t, "- [*"+strings.Repeat("n", 16)+more+"x]", "[ [", api.ErrToken, 20)
	}
}

// TestAnchorTwice holds names that are used already, each told at its last byte.
func TestAnchorTwice(t *testing.T) {
	for _, ahead := range []struct{ text, told string }{
		{"- &ab 1\n- ", "[ 1"}, {"- &ab\n- ", "[ null"}, {"- &ab\n  - ", "[ ["}, {"- &ab\n  - 1\n- ", "[ [ 1 ]"}, {"- &ab 1\n- *ab\n-  ", "[ 1 1"}, {"- &ab\n  -\n    k: ", `[ [ { "k":`},
	} {
		syntax.Check(t, ahead.text+"&ab", ahead.told, api.ErrTwice, len(ahead.text)+2)
		for _, more := range []string{" 1", "\t", " *ab", "[", " "} {
			syntax.Check(t, ahead.text+"&ab"+more, ahead.told, api.ErrTwice, len(ahead.text)+2)
		}
		for _, name := range []string{"a", "abc", "AB", "ab."} {
			last(t, ahead.told, api.ErrSyntax, ahead.text+"&"+name+" x")
		}
	}
}

// TestReferences holds references to names that are open, or none.
func TestReferences(t *testing.T) {
	for _, ahead := range []struct{ text, told string }{
		{"", ""}, {"- ", "["}, {"- &ab ", "["}, {"&ab ", ""}, {"- &ab [", "[ ["}, {"- &ab [1, ", "[ [ 1"}, {`- &ab {"k": `, `[ { "k":`}, {"- &ab\n  - ", "[ ["}, {"- &ab\n  - 1\n  - [[", "[ [ 1 [ ["}, {"- &a 1\n- &abc 1\n- &AB 1\n- ", "[ 1 1 1"}, {"- &x 1\n- ", "[ 1"},
	} {
		for _, more := range []string{"", " ", "]", "\t", ": 1", " 1", ","} {
			syntax.Check(t, ahead.text+"*ab"+more, ahead.told, api.ErrAnchor, len(ahead.text)+2)
		}
	}
	last(t, "[ 1", api.ErrSyntax, "- &a 1\n- * ", "- &a 1\n- **", "- &a 1\n- *1", "- &a 1\n- *&")
	last(t, "[ 1 1", api.ErrSyntax, "- &a 1\n- *a x", "- &a 1\n- *a,", "- &a 1\n- *a\t", "- &a 1\n- *a*", "- &a 1\n- *a:")
	last(t, "[ 1 [ 1", api.ErrSyntax, "- &a 1\n- [*a}", "- &a 1\n- [*a 1", "- &a 1\n- [*a:")
	syntax.Check(t, "- &a\n- *b\n- *a", "[ null", api.ErrAnchor, 8)
}

// TestExpand holds that references repeat 40 events, and no more.
func TestExpand(t *testing.T) {
	ten := "- &t [1,2,3,4,5,6,7,8]\n- &o 0\n"
	told := "[ [ 1 2 3 4 5 6 7 8 ] 0"
	thirty, toldThirty := ten+strings.Repeat("- *t\n", 3), told+strings.Repeat(" [ 1 2 3 4 5 6 7 8 ]", 3)
	good(t, thirty+"- *t", toldThirty+" [ 1 2 3 4 5 6 7 8 ] ]")
	last(t, toldThirty+" 0", api.ErrExpand, thirty+"- *o\n- *t")
	last(t, toldThirty+" [ 1 2 3 4 5 6 7 8 ]", api.ErrExpand, thirty+"- *t\n- *o")
	last(t, toldThirty+" [ 1 2 3 4 5 6 7 8 ] [", api.ErrExpand, thirty+"- *t\n- [*o", thirty+"- *t\n- [ *t")
	good(t, thirty+"- ["+strings.Repeat("*o,", 9)+"*o]", toldThirty+" ["+strings.Repeat(" 0", 10)+" ] ]")
	last(t, toldThirty+" ["+strings.Repeat(" 0", 10), api.ErrExpand, thirty+"- ["+strings.Repeat("*o,", 10)+"*o")
	last(t, toldThirty+" [ 1 2 3 4 5 6 7 8 ]", api.ErrAnchor, thirty+"- *t\n- *x") // ahead of the count
	syntax.Check(t, thirty+"- *t\n- *o x", toldThirty+" [ 1 2 3 4 5 6 7 8 ]", api.ErrExpand, len(thirty)+8)
}

// TestReferenceErrors holds events that a reference repeats and that may not
// stand there: those ahead of them are told.
func TestReferenceErrors(t *testing.T) {
	ahead := "- &ab\n  -\n    -\n- "
	told := "[ [ [ null ] ]"
	good(t, ahead+"[[[*ab]]]", told+" [ [ [ [ [ null ] ] ] ] ] ]")
	last(t, told+" [ [ [ [ [", api.ErrDepth, ahead+"[[[[*ab")
	last(t, told+" [ [ [ [ [", api.ErrDepth, ahead+"[[[[[*ab")
}
