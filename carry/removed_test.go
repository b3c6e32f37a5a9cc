package carry_test

import (
	"strings"
	"testing"

	"hexapla/api"
	"hexapla/trees"
)

// TestRemoved removes each value from each List of two or more.
func TestRemoved(t *testing.T) {
	row := strings.TrimSpace(times(3, sized(158)))
	for written, values := range map[string]int{
		"[ 1 null ]": 2, "[ null true [ ] { } \"x\" ]": 5, "[ [ 1 2 ] [ 3 ] ]": 4, `{ "a": [ 1 2 ] "b": [ 1 ] "c": [ ] }`: 2, `[ { "a": [ [ 1 2 ] 3 ] } null ]`: 6, "[ " + row + " ]": 3, "[ [ " + sized(156) + " ] " + sized(158) + " ]": 2,
		"{ " + sizedKey(159) + " [ 1 2 ] }": 2, times(5, "[") + "[ 1 2 ] " + times(5, "]"): 2, `[ { "a": 1 } { "b": 2 } { "a": 3 } ]`: 3,
	} {
		n := trees.Read(written)
		for _, syntax := range []int{api.Brace, api.Paren, api.Outline} {
			good(t, syntax, written)
			if got := checkRemoved(t, syntax, n); got != values {
				t.Errorf("syntax %d, %s: %d values are removed", syntax, written, got)
			}
		}
	}
}

// TestRemovedElems does so where there are Elems, which only the paren syntax has
// in Lists. The angle syntax represents no tree that has a List.
func TestRemovedElems(t *testing.T) {
	for _, written := range []string{"[ <e > <e > ]", "[ 1 <e <e > > [ <e @k=\"\" > null ] ]", `{ "a": [ <e > 1 ] }`} {
		n := trees.Read(written)
		if checkRemoved(t, api.Paren, n) < 2 {
			t.Error(written)
		}
		bad(t, api.Angle, "^"+written)
	}
}
