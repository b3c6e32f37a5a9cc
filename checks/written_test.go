package checks_test

import (
	"slices"
	"testing"

	"hexapla/api"
	"hexapla/checks"
)

func TestWritten(t *testing.T) {
	for _, l := range []struct {
		events []api.Event
		want   string
	}{
		{nil, ""},
		{[]api.Event{{Kind: api.Null}, {Kind: api.Bool, Text: "true"}, {Kind: api.Number, Text: "1e3"}, {Kind: api.Text, Text: "a\"\n"}}, `null true 1e3 "a\"\n"`},
		{[]api.Event{{Kind: api.List}, {Kind: api.EndList}, {Kind: api.Map}, {Kind: api.Key}, {Kind: api.EndMap}}, `[ ] { "": }`},
		{[]api.Event{{Kind: api.Elem, Text: "{u}e"}, {Kind: api.Attr, Text: "{u}k", Val: "v w"}, {Kind: api.EndElem}}, `<{u}e @{u}k="v w" >`},
		{[]api.Event{{Kind: api.Elem, Text: "e"}, {Kind: api.Attr, Text: "{u=v}k", Val: "=\""}, {Kind: api.Text, Text: ": ?@"}}, `<e @{u=v}k="=\"" ": ?@"`},
		{[]api.Event{{}, {Kind: 13}, {Kind: api.Null, Text: "x"}, {Kind: api.Bool, Text: "null"}, {Kind: api.Number, Text: "10"}}, `?0"""" ?13"""" ?1"x""" ?2"null""" ?3"10"""`},
		{[]api.Event{{Kind: api.Text, Val: "x"}, {Kind: api.Text, Text: "\xff"}, {Kind: api.Key, Text: "a", Val: "x"}}, `?4"""x" ?4"\xff""" ?8"a""x"`},
		{[]api.Event{{Kind: api.List, Text: "x"}, {Kind: api.EndList, Text: "x"}, {Kind: api.Map, Val: "x"}, {Kind: api.EndMap, Val: "x"}}, `?5"x""" ?6"x""" ?7"""x" ?9"""x"`},
		{[]api.Event{{Kind: api.Elem, Text: "1"}, {Kind: api.Elem, Text: "e", Val: "x"}, {Kind: api.Attr, Val: "v"}, {Kind: api.EndElem, Text: "x"}}, `?10"1""" ?10"e""x" ?11"""v" ?12"x"""`},
	} {
		if got := checks.Written(l.events); got != l.want {
			t.Errorf("%s, not %s", got, l.want)
		}
		if got := checks.Events(l.want); !slices.Equal(got, l.events) {
			t.Errorf("%s: %v, not %v", l.want, got, l.events)
		}
	}
	r := checks.Result{Events: []api.Event{{Kind: api.List}}, Err: api.ErrSyntax, At: 1}
	if got := r.Written(); got != "[, error 2 at 1" {
		t.Error(got)
	}
}

// TestEventsWritten holds that what Written never writes is refused, but for
// wide blanks between the events.
func TestEventsWritten(t *testing.T) {
	if got := checks.Written(checks.Events(` [  "a"   1 `)); got != `[ "a" 1` {
		t.Error(got)
	}
	for _, written := range []string{`"a`, `"\y"`, `"a"b`, `"a""b"`, `"a":1`, `@`, `@a`, `@a=`, `@a=b`, `@a="b`, `@a="b"c`, `?`, `?1`, `?1""`, `?x""""`, `?1"""`, `?1"" ""`, `?1""""2`} {
		func() {
			defer func() {
				if recover() == nil {
					t.Error(written)
				}
			}()
			checks.Events(written)
		}()
	}
}

func TestPlaced(t *testing.T) {
	text, events, places := checks.Placed(t, "a^[1^2^]^b", "[ 12 ] null")
	if text != "a[12]b" || checks.Written(events) != "[ 12 ] null" || !slices.Equal(places, []int{1, 3, 4, 5}) {
		t.Error(text, events, places)
	}
	text, events, places = checks.Placed(t, "^^ab^", "[ 1 ]")
	if text != "ab" || checks.Written(events) != "[ 1 ]" || !slices.Equal(places, []int{0, 0, 2}) {
		t.Error(text, events, places)
	}
	text, events, places = checks.Placed(t, "a", "")
	if text != "a" || len(events) > 0 || len(places) > 0 {
		t.Error(text, events, places)
	}
	for _, written := range []string{"", "1", "[ 1 ]"} {
		expect(t, written, true, func(t checks.T) { checks.Placed(t, "a^b^c", written) })
	}
}
