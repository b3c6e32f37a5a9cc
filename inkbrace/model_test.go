package inkbrace_test

import (
	"bytes"
	"encoding/json"
	"math/rand"
	"strings"
	"testing"

	"hexapla/api"
	"hexapla/checks"
	"hexapla/prints"
	"hexapla/quote"
	"hexapla/tree"
	"hexapla/trees"
)

// model is what is to be printed of a tree. It asks the events, not the nodes.
func model(n api.Node) string {
	l, _ := tree.Walk(n)
	out, due := "", false // whether a comma must be ahead of what begins now
	for _, x := range l {
		ends := x.Kind == api.EndList || x.Kind == api.EndMap
		if due && !ends {
			out += ","
		}
		out += word(x)
		due = x.Kind != api.List && x.Kind != api.Map && x.Kind != api.Key
	}
	return out
}

// word is what stands for an event.
func word(x api.Event) string {
	switch x.Kind {
	case api.Text, api.Key:
		quoted, _ := quote.Print(x.Text)
		if x.Kind == api.Key {
			quoted += ":"
		}
		return quoted
	}
	return checks.Written([]api.Event{x}) // which is the same
}

// scalars are values without Kids, of each kind, with what has a meaning in the
// syntax.
func scalars() []api.Node {
	return trees.Read(`[ null true false 1 -15e-1 "" "x" "1" "null" "," "\"" "a\"b\\ \n\x01é" "[]" "{\"a\":1}" ` + "-" + times(29, "9") + ` "` + times(48, `\x02`) + `" ]`).Kids
}

// TestAll holds all small trees.
func TestAll(t *testing.T) {
	for _, l := range []struct {
		trees.Words
		n, least int
	}{
		{trees.Words{Scalars: trees.Read(`[ null true "x" ]`).Kids, Keys: []string{"a", ""}}, 6, 10000},
		{trees.Words{Scalars: trees.Read("[ 1 ]").Kids, Keys: []string{"a", "b"}}, 7, 15000},
		{trees.Words{Scalars: trees.Read(`[ 1 12 2 "," "\"" "\",\"" ]`).Kids}, 5, 5000},
		{trees.Words{Scalars: scalars(), Keys: []string{"a", "a.b", `":1,"`}, Elems: []string{"e"}}, 3, 200},
	} {
		if got := printer.Distinct(t, model, l.All(l.n)...); got < l.least {
			t.Error(got, l.least)
		}
	}
}

// TestRandom holds great trees.
func TestRandom(t *testing.T) {
	r := rand.New(rand.NewSource(16))
	keys := []string{"a", "b", "a.b", "a b", "", "null", `"`, "\n", "é", ",", ":", times(48, "k")}
	m := trees.Maker{Words: trees.Words{Scalars: scalars(), Keys: keys, Elems: []string{"e"}}, Pick: r.Intn}
	plain := m
	plain.Elems = nil
	if got := printer.Random(t, m, func() api.Node { return plain.Value(0) }, model); got < 3000 {
		t.Error(got)
	}
}

// TestJSON holds that what is printed is JSON, without blanks but those within
// quoted strings.
func TestJSON(t *testing.T) {
	r := rand.New(rand.NewSource(17))
	words := trees.Words{Scalars: append(scalars(), trees.Read(`" \t\n\r "`)), Keys: []string{" ", "a b", "\t", "\\\" "}}
	m := trees.Maker{Words: words, Pick: r.Intn}
	blanks := 0
	for range 2000 {
		text, _ := printer.Check(t, m.Value(0))
		var compact bytes.Buffer
		if fault := json.Compact(&compact, []byte(text)); fault != nil || compact.String() != text {
			t.Errorf("%q: %v", text, fault)
		}
		if strings.ContainsAny(prints.Outside(text), " \t\n\r") || strings.ContainsAny(text, "\t\n\r") {
			t.Errorf("%q has blanks", text)
		}
		blanks += strings.Count(text, " ")
	}
	if blanks < 500 {
		t.Error(blanks)
	}
}
