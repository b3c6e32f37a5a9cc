package carry_test

import (
	"slices"
	"strconv"
	"strings"
	"testing"

	"hexapla/api"
	"hexapla/carry"
	"hexapla/trees"
)

// syntaxes are all there are.
var syntaxes = []int{api.Brace, api.Angle, api.Outline, api.Sections, api.Delim, api.Paren}

// check holds what Of tells of a node, and that this stays as it is.
func check(t *testing.T, syntax int, n api.Node, place []int, want api.Errno) {
	t.Helper()
	before := trees.Written(n)
	if got, e := carry.Of(syntax, n); !slices.Equal(got, place) || e != want {
		t.Errorf("syntax %d, %s: %v %v, not %v %v", syntax, before, got, e, place, want)
	}
	if after := trees.Written(n); after != before {
		t.Errorf("%s became %s", before, after)
	}
}

// good holds that a syntax can represent trees.
func good(t *testing.T, syntax int, written ...string) {
	t.Helper()
	for _, w := range written {
		check(t, syntax, trees.Read(w), nil, api.OK)
		checkModel(t, syntax, trees.Read(w))
	}
}

// bad holds which node of trees is the first one that a syntax cannot represent:
// the one that is written with a ^ ahead.
func bad(t *testing.T, syntax int, marked ...string) {
	t.Helper()
	for _, w := range marked {
		n, place := trees.Marked(w)
		check(t, syntax, n, place, api.ErrCannotCarry)
		checkModel(t, syntax, n)
	}
}

// sized writes a text whose quoted string has n bytes, from 8 up to 260. As a key
// as a word, it has so many, too.
func sized(n int) string {
	return strconv.Quote(strings.Repeat("\x01", (n-2)/6) + strings.Repeat("x", (n-2)%6))
}

// sizedKey writes a key of n bytes as a word.
func sizedKey(n int) string { return sized(n) + ":" }

// times writes something n times.
func times(n int, written string) string { return strings.Repeat(written+" ", n) }

// fields writes n fields with a value, k0 and so on.
func fields(n int, value string) string {
	out := ""
	for i := range n {
		out += `"k` + strconv.Itoa(i) + `": ` + value + " "
	}
	return out
}

// edge holds a tree with a line of just the length that it may have, and of more.
// In it, ~ stands for what write writes so that it has n bytes then.
func edge(t *testing.T, syntax int, marked string, write func(n int) string, n int) {
	t.Helper()
	for k := n - 2; k <= n+2; k++ {
		if w := strings.ReplaceAll(marked, "~", write(k)); k > n {
			bad(t, syntax, w)
		} else {
			good(t, syntax, strings.Replace(w, "^", "", 1))
		}
	}
}
