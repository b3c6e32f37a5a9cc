package carry_test

import (
	"slices"
	"strings"
	"testing"

	"hexapla/api"
	"hexapla/carry"
	"hexapla/names"
	"hexapla/quote"
	"hexapla/trees"
)

// spot is a node of a tree, which the model asks by itself, from the root down to
// it, for whether a syntax can represent it.
type spot struct{ trees.Spot }

// up returns the spot that has this one among its Kids, and whether there is one.
func (s spot) up() (spot, bool) {
	n := len(s.Place) - 1
	if n < 0 {
		return s, false
	}
	return spot{trees.Spot{Line: s.Line[:n+1], Place: s.Place[:n]}}, true
}

// upKind returns the kind of the node that has this one among its Kids, or 0.
func (s spot) upKind() int {
	if up, is := s.up(); is {
		return up.Node().Kind
	}
	return 0
}

// first returns what Of is to tell of a tree.
func first(syntax int, n api.Node) ([]int, api.Errno) {
	cannot := [](func(spot) bool){api.Brace: spot.cannotBrace, api.Angle: spot.cannotAngle, api.Outline: spot.cannotOutline, api.Sections: spot.cannotSections, api.Delim: spot.cannotDelim}
	for _, s := range trees.Spots(n) {
		if syntax != api.Paren && cannot[syntax](spot{s}) {
			return s.Place, api.ErrCannotCarry
		}
	}
	return nil, api.OK
}

// checkModel holds what Of tells of a tree against the model, and returns the error.
func checkModel(t *testing.T, syntax int, n api.Node) api.Errno {
	t.Helper()
	got, e := carry.Of(syntax, n)
	if want, f := first(syntax, n); !slices.Equal(got, want) || e != f {
		t.Errorf("syntax %d, %s: %v %v, not %v %v", syntax, trees.Written(n), got, e, want, f)
	}
	return e
}

func (s spot) cannotBrace() bool { return s.Node().Kind == api.Elem }

func (s spot) cannotAngle() bool {
	n := s.Node()
	up, inner := s.up()
	switch {
	case !inner && n.Kind != api.Elem:
		return true
	case n.Kind == api.Text:
		return hasControl(n.Text)
	case n.Kind == api.Attr:
		return n.Text == "xmlns" || hasControl(n.Val)
	case n.Kind != api.Elem:
		return false
	}
	outer := ""
	if inner {
		outer = spaceOf(up.Node())
	}
	attrs, bindings := 0, map[string]int{}
	for _, kid := range n.Kids {
		if kid.Kind == api.Attr {
			attrs++
			bindings[spaceOf(kid)]++
		}
	}
	delete(bindings, "")
	needed := len(bindings)
	if spaceOf(n) != outer {
		needed++
	}
	return needed > 10 || needed+attrs > 20
}

func hasControl(text string) bool {
	for b := range byte(32) {
		if !strings.Contains("\t\n\r", string([]byte{b})) && strings.Contains(text, string([]byte{b})) {
			return true
		}
	}
	return false
}

func spaceOf(n api.Node) string {
	space, _, _ := names.Cut(n.Text)
	return space
}

func (s spot) cannotDelim() bool {
	n := s.Node()
	switch len(s.Place) {
	case 0:
		return n.Kind != api.List
	case 1:
		keys := columns(n)
		if s.Place[0] > 0 {
			return n.Kind != api.Map || !slices.Equal(keys, columns(s.Line[0].Kids[0]))
		}
		return n.Kind != api.Map || len(keys) == 0 || len(keys) > 8
	case 3:
		return n.Kind != api.Text
	}
	return false
}

func columns(n api.Node) []string {
	var keys []string
	for _, kid := range n.Kids {
		keys = append(keys, kid.Text)
	}
	return keys
}

func (s spot) cannotOutline() bool {
	n := s.Node()
	if n.Kind == api.Elem || n.Kind == api.Key {
		return n.Kind == api.Elem
	}
	blocks := 0
	for up, is := s.up(); is; up, is = up.up() {
		if k := up.Node().Kind; k == api.List || k == api.Map {
			blocks++
		}
	}
	line := strings.Repeat("  ", max(0, blocks-1))
	switch up, _ := s.up(); s.upKind() {
	case api.List:
		line += "- "
	case api.Key:
		line += wordOf(up.Node().Text) + ": "
	}
	if len(n.Kids) > 0 {
		line = strings.TrimSuffix(line, " ")
	} else {
		line += formOf(n)
	}
	return len(line) > 160
}

func (s spot) cannotSections() bool {
	n := s.Node()
	up, inner := s.up()
	switch {
	case !inner:
		return n.Kind != api.Map
	case n.Kind == api.Elem, n.Kind == api.Null:
		return true
	case n.Kind != api.Key || !up.isTable():
		return false
	case isDeep(n):
		path := ""
		for _, key := range s.Line {
			if key.Kind == api.Key {
				path += "." + wordOf(key.Text)
			}
		}
		header := "[" + path[1:] + "]"
		if n.Kids[0].Kind == api.List {
			header = "[" + header + "]"
		}
		return len(header) > 160
	}
	line := formOf(n)
	return slices.ContainsFunc(up.Node().Kids[:s.Place[len(s.Place)-1]], isDeep) || len(line) > 160 && !strings.Contains(line, "<")
}

// isTable reports whether the node is a table.
func (s spot) isTable() bool {
	up, inner := s.up()
	switch {
	case s.Node().Kind != api.Map:
		return false
	case !inner:
		return true
	case up.Node().Kind == api.List && areRows(up.Node()):
		up, inner = up.up()
	}
	if !inner || up.Node().Kind != api.Key {
		return false
	}
	table, _ := up.up()
	return table.isTable()
}

func isDeep(field api.Node) bool {
	value := field.Kids[0]
	return value.Kind == api.Map || value.Kind == api.List && areRows(value)
}

func areRows(n api.Node) bool {
	maps := 0
	for _, kid := range n.Kids {
		if kid.Kind == api.Map {
			maps++
		}
	}
	return maps > 0 && maps == len(n.Kids)
}

func wordOf(key string) string {
	if names.Local(key) && !strings.Contains(key, ".") {
		return key
	}
	quoted, _ := quote.Print(key)
	return quoted
}

// formOf is the one-line form of a node. That of an Elem, of which there is none,
// is a byte that no other tree of these tests has in its form.
func formOf(n api.Node) string {
	var parts []string
	for _, kid := range n.Kids {
		parts = append(parts, formOf(kid))
	}
	inner := strings.Join(parts, ", ")
	switch n.Kind {
	case api.Null:
		return "null"
	case api.Text:
		quoted, _ := quote.Print(n.Text)
		return quoted
	case api.List:
		return "[" + inner + "]"
	case api.Map:
		return "{" + inner + "}"
	case api.Key:
		return wordOf(n.Text) + " = " + inner
	case api.Elem:
		return "<"
	}
	return n.Text
}

// tally counts for each syntax how many trees it could represent, and could not,
// and how many values were removed from Lists.
type tally [api.Paren + 1]struct{ could, not, removed int }

// check holds what is told of a tree against the model.
func (c *tally) check(t *testing.T, n api.Node, syntaxes []int) {
	t.Helper()
	want, wantErr := formOf(n), api.OK
	if strings.Contains(want, "<") {
		want, wantErr = "", api.ErrCannotCarry
	}
	checkRow(t, n, want, wantErr)
	for _, syntax := range syntaxes {
		if checkModel(t, syntax, n) == api.OK {
			c[syntax].could++
			c[syntax].removed += checkRemoved(t, syntax, n)
		} else {
			c[syntax].not++
		}
	}
}

// checkRemoved holds that a syntax, but for two, can represent a tree still when a
// value is removed from a List of two or more, and returns how often that is done.
func checkRemoved(t *testing.T, syntax int, n api.Node) int {
	t.Helper()
	if syntax == api.Sections || syntax == api.Delim {
		return 0
	}
	removed := 0
	for _, s := range trees.Spots(n) {
		if up, is := (spot{s}).up(); is && up.Node().Kind == api.List && len(up.Node().Kids) > 1 {
			removed++
			if place, e := carry.Of(syntax, trees.Put(n, s.Place)); len(place) > 0 || e != api.OK {
				t.Errorf("syntax %d, %s without %v: %v %v", syntax, trees.Written(n), s.Place, place, e)
			}
		}
	}
	return removed
}
