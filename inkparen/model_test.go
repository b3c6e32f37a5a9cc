package inkparen_test

import (
	"math/rand"
	"slices"
	"strings"
	"testing"

	"hexapla/api"
	"hexapla/prints"
	"hexapla/quote"
	"hexapla/tree"
	"hexapla/trees"
)

// model is what is to be printed of a tree. It asks the events, not the nodes.
func model(n api.Node) string {
	l, _ := tree.Walk(n)
	var out strings.Builder
	due := false // whether a blank must be ahead of a part
	for _, x := range l {
		ends := x.Kind == api.EndList || x.Kind == api.EndMap || x.Kind == api.EndElem
		if due && !ends {
			out.WriteByte(' ')
		}
		out.WriteString(word(x))
		due = x.Kind != api.List && x.Kind != api.Map
	}
	return out.String()
}

// word is what stands for an event.
func word(x api.Event) string {
	text, _ := quote.Print(x.Text)
	val, _ := quote.Print(x.Val)
	switch x.Kind {
	case api.Null:
		return "#n"
	case api.Number:
		return x.Text
	case api.List:
		return "("
	case api.Map:
		return "#("
	case api.Elem:
		return "#<" + text
	case api.Attr:
		return "@" + text + " " + val
	case api.Text, api.Key:
		return text
	case api.Bool:
		return map[string]string{"true": "#t", "false": "#f"}[x.Text]
	}
	return ")"
}

// scalars are values without Kids, of each kind, with what has a meaning in the
// syntax.
func scalars() []api.Node {
	return trees.Read(`[ null true false 1 -15e-1 "" "x" "1" "#n" " " "\"" "a\"b\\ \n\x01é" "()" "#<\"e\")" ";" "@" ` + "-" + times(29, "9") + ` "` + times(48, `\x02`) + `" ]`).Kids
}

// attrs are attributes, some with the same name.
func attrs() []api.Node {
	first := trees.Read(`<e @a="" @k="v" @{u}k="" @{u}a="x" @K="\" \"" @b="@" @c="\n" @d="()" @e="e" @f="#<" >`).Kids
	return append(first, trees.Read(`<e @a="a" @k="" @{u}k="v" @l="é" >`).Kids...)
}

// TestAll holds all small trees.
func TestAll(t *testing.T) {
	for _, l := range []struct {
		trees.Words
		n, least int
	}{
		{trees.Words{Scalars: trees.Read(`[ null true "x" ]`).Kids, Keys: []string{"a", ""}}, 6, 10000},
		{trees.Words{Scalars: trees.Read("[ 1 ]").Kids, Keys: []string{"a", "b"}}, 7, 15000},
		{trees.Words{Scalars: trees.Read(`[ 1 12 2 " " "\"" "\" \"" ]`).Kids}, 5, 5000},
		{trees.Words{Scalars: trees.Read(`[ "x" ]`).Kids, Elems: []string{"e", "x"}, Attrs: trees.Read(`<e @x="x" @e="" >`).Kids}, 5, 5000},
		{trees.Words{Scalars: trees.Read(`[ 1 ]`).Kids, Keys: []string{"a"}, Elems: []string{"e"}, Attrs: trees.Read(`<e @a="1" >`).Kids}, 6, 5000},
		{trees.Words{Scalars: scalars(), Keys: []string{"a", "a.b", `" 1 "`}, Elems: []string{"e", "{u}e"}, Attrs: attrs()}, 3, 1500},
	} {
		if got := printer.Distinct(t, model, l.All(l.n)...); got < l.least {
			t.Error(got, l.least)
		}
	}
}

// maker makes great trees.
func maker(seed int64) trees.Maker {
	keys := []string{"a", "b", "a.b", "a b", "", "#n", `"`, "\n", "é", " ", "@", times(48, "k")}
	elems := []string{"e", "f", "{u}e", "{v}e", "E", "a-b.c"}
	return trees.Maker{Words: trees.Words{Scalars: scalars(), Keys: keys, Elems: elems, Attrs: attrs()}, Pick: rand.New(rand.NewSource(seed)).Intn}
}

// TestRandom holds great trees.
func TestRandom(t *testing.T) {
	m := maker(18)
	next := func() api.Node {
		if m.Rare(4) {
			return m.Elem(0)
		}
		return m.Value(0)
	}
	if got := printer.Random(t, m, next, model); got < 4000 {
		t.Error(got)
	}
}

// blanks returns how many blanks stand between the parts of a tree.
func blanks(n api.Node) int {
	sum := 0
	for _, s := range trees.Spots(n) {
		n := s.Node()
		parts := len(n.Kids)
		switch n.Kind {
		case api.Map:
			parts *= 2
		case api.Elem:
			parts++
		case api.Attr:
			parts = 2
		}
		if parts > 0 && n.Kind != api.Key {
			sum += parts - 1
		}
	}
	return sum
}

// TestBlanks holds that there is just one blank between two parts, and none
// elsewhere, but within quoted strings.
func TestBlanks(t *testing.T) {
	m := maker(19)
	m.Scalars = slices.Concat(m.Scalars, trees.Read(`[ "  " "( )" " \t\n\r " ]`).Kids)
	sum := 0
	for range 3000 {
		n := m.Value(0)
		text, _ := printer.Check(t, n)
		out := prints.Outside(text)
		for _, wrong := range []string{"  ", "( ", "< ", " )", "@ ", "# "} {
			if strings.Contains(" "+out+" ", wrong) {
				t.Errorf("%s has %q", text, wrong)
			}
		}
		if got, want := strings.Count(out, " "), blanks(n); got != want || strings.ContainsAny(text, "\t\n\r") {
			t.Errorf("%s has %d blanks, and not %d", text, got, want)
		}
		sum += strings.Count(out, " ")
	}
	if sum < 10000 {
		t.Error(sum)
	}
}
