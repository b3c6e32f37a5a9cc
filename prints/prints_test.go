package prints_test

import (
	"math/rand"
	"slices"
	"strings"
	"testing"

	"hexapla/api"
	"hexapla/brace"
	"hexapla/checks"
	"hexapla/inkbrace"
	"hexapla/prints"
	"hexapla/trees"
)

// with returns a printer that answers by print.
func with(print func(n api.Node) (string, []int, api.Errno)) prints.Printer {
	return prints.Printer{
		Number: api.Brace,
		Syntax: checks.Syntax{New: func() checks.Decoder { return brace.New() }, Decode: brace.Decode},
		Print:  print,
	}
}

// right is a printer without faults.
var right = with(inkbrace.Print)

// text prints trees as right does.
func text(n api.Node) string {
	text, _, _ := inkbrace.Print(n)
	return text
}

// changed returns a printer that answers what change makes of a right answer.
func changed(change func(text *string, place *[]int, e *api.Errno)) prints.Printer {
	return with(func(n api.Node) (string, []int, api.Errno) {
		text, place, e := inkbrace.Print(n)
		change(&text, &place, &e)
		return text, place, e
	})
}

// changedText returns a printer that prints another text.
func changedText(change func(text string) string) prints.Printer {
	return changed(func(text *string, _ *[]int, e *api.Errno) {
		if *e == api.OK {
			*text = change(*text)
		}
	})
}

// maker makes small trees.
func maker() trees.Maker {
	words := trees.Words{Scalars: trees.Read(`[ 1 2 "x" ]`).Kids, Keys: []string{"a", "b"}, Elems: []string{"e"}}
	return trees.Maker{Words: words, Pick: rand.New(rand.NewSource(4)).Intn}
}

// each are all checks, by their names.
func each(p prints.Printer) map[string]func(t checks.T) {
	m := maker()
	small := func() api.Node { return api.Node{Kind: api.List, Kids: []api.Node{m.Value(4)}} }
	return map[string]func(t checks.T){
		"Check":     func(t checks.T) { p.Check(t, trees.Read("[ 1 ]")) },
		"Check bad": func(t checks.T) { p.Check(t, trees.Read("[ 1 <e > ]")) },
		"Good":      func(t checks.T) { p.Good(t, "[ 1 ]", "[1]") },
		"Goods":     func(t checks.T) { p.Goods(t, map[string]string{"[ 1 ]": "[1]", "[ 2 ]": "[2]"}) },
		"Bad":       func(t checks.T) { p.Bad(t, "[ 1 ^<e > ]") },
		"NoTrees":   func(t checks.T) { p.NoTrees(t) },
		"NoTree":    func(t checks.T) { p.NoTree(t, api.Node{Kind: api.Key}, api.ErrEvents) },
		"Distinct":  func(t checks.T) { p.Distinct(t, text, trees.Read("[ 1 ]"), trees.Read("[ 2 ]")) },
		"Differ":    func(t checks.T) { p.Differ(t, text, "[ 1 ]", "[ 2 ]") },
		"Random":    func(t checks.T) { p.Random(t, m, small, text) },
		"Spare":     func(t checks.T) { p.Spare(t, "[ 1 [ 2 ] ]") },
		"Apart":     func(t checks.T) { p.Apart(t, "[ 1 [ ^<e > ] ]") },
	}
}

// expect holds which checks find a fault of a printer.
func expect(t *testing.T, p prints.Printer, names ...string) {
	t.Helper()
	for name, check := range each(p) {
		checks.Expect(t, name, slices.Contains(names, name), check)
	}
}

func TestRight(t *testing.T) {
	expect(t, right)
	m := maker()
	if got := right.Random(t, m, func() api.Node { return m.Value(3) }, text); got < 1500 {
		t.Error(got)
	}
	if got := right.Distinct(t, text, trees.Read("1"), trees.Read("[ ]"), trees.Read("1"), trees.Read("<e >"), api.Node{}); got != 2 {
		t.Error(got)
	}
	if text, e := right.Check(t, trees.Read("[ 1 ]")); text != "[1]" || e != api.OK {
		t.Error(text, e)
	}
	if text, e := right.Check(t, api.Node{}); text != "" || e != api.ErrEvents {
		t.Error(text, e)
	}
}

// TestWanted asks for what a right printer does not answer.
func TestWanted(t *testing.T) {
	one := func(api.Node) string { return "1" }
	for name, check := range map[string]func(t checks.T){
		"text":  func(t checks.T) { right.Good(t, "[ 1 ]", "[ 1 ]") },
		"texts": func(t checks.T) { right.Goods(t, map[string]string{"[ 1 ]": "[1]", "[ 2 ]": "[1]"}) },
		"none":  func(t checks.T) { right.Good(t, "<e >", "") },
		"place": func(t checks.T) { right.Bad(t, "[ ^1 <e > ]") },
		"all":   func(t checks.T) { right.Bad(t, "[ ^<e > ]", "^1") },
		"same":  func(t checks.T) { right.Differ(t, text, "1", "2", "1") },
		"fewer": func(t checks.T) { right.Differ(t, text, "1", "<e >") },
		"other": func(t checks.T) { right.Differ(t, one, "2", "3") },
		"tree":  func(t checks.T) { right.NoTree(t, trees.Read("1"), api.OK) },
		"error": func(t checks.T) { right.NoTree(t, api.Node{}, api.ErrTwice) },
		"model": func(t checks.T) { right.Distinct(t, one, trees.Read("1"), trees.Read("2")) },
		"many":  func(t checks.T) { right.Random(t, maker(), func() api.Node { return trees.Read("2") }, one) },
		"path":  func(t checks.T) { right.Apart(t, "[ 1 ^[ <e > ] ]") },
	} {
		checks.Expect(t, name, true, check)
	}
}

func TestWrongText(t *testing.T) {
	good := []string{"Check", "Good", "Goods", "Distinct", "Differ", "Random", "Spare"}
	expect(t, changedText(func(string) string { return "" }), good...)
	expect(t, changedText(func(string) string { return "1" }), good...)
	expect(t, changedText(func(text string) string { return text + "]" }), good...)
	expect(t, changedText(func(text string) string { return " " + text }), "Good", "Goods", "Distinct", "Differ", "Random") // which is decoded
	expect(t, changedText(func(text string) string { return strings.ReplaceAll(text, "2", "3") }), "Goods", "Distinct", "Differ", "Random", "Spare")
}

func TestWrongAnswer(t *testing.T) {
	bad := []string{"Check bad", "Bad", "NoTrees", "NoTree", "Random", "Apart"}
	expect(t, changed(func(text *string, _ *[]int, e *api.Errno) {
		if *e != api.OK {
			*text = "1"
		}
	}), bad...)
	expect(t, changed(func(_ *string, _ *[]int, e *api.Errno) {
		if *e != api.OK {
			*e = api.ErrArg
		}
	}), bad...)
	expect(t, changed(func(_ *string, place *[]int, e *api.Errno) {
		if *e == api.ErrCannotCarry {
			*place = (*place)[:len(*place)-1]
		}
	}), "Check bad", "Bad", "Random", "Apart")
	expect(t, changed(func(_ *string, place *[]int, e *api.Errno) {
		if *e != api.ErrCannotCarry && *e != api.OK {
			*place = []int{0}
		}
	}), "NoTrees", "NoTree")
	expect(t, changed(func(_ *string, place *[]int, e *api.Errno) {
		if *e == api.OK {
			*place = []int{0}
		}
	}), "Check", "Good", "Goods", "Distinct", "Differ", "Random", "Spare")
}

// TestChanging asks printers that change what they are given.
func TestChanging(t *testing.T) {
	expect(t, with(func(n api.Node) (string, []int, api.Errno) {
		text, place, e := inkbrace.Print(n)
		for i := range n.Kids {
			n.Kids[i].Text += "1"
		}
		return text, place, e
	}), "Check", "Check bad", "Good", "Goods", "Bad", "NoTrees", "Distinct", "Differ", "Random", "Spare", "Apart")
	expect(t, with(func(n api.Node) (string, []int, api.Errno) {
		if len(n.Kids) == 2 && len(n.Kids[1].Kids) == 1 && cap(n.Kids[1].Kids) == 2 {
			_ = append(n.Kids[1].Kids, api.Node{})
		}
		return inkbrace.Print(n)
	}), "Spare")
}

// TestKeeping asks a printer whose paths share memory.
func TestKeeping(t *testing.T) {
	kept := make([]int, 9)
	expect(t, changed(func(_ *string, place *[]int, _ *api.Errno) {
		*place = kept[:copy(kept, *place)]
	}), "Apart")
}

func TestOutside(t *testing.T) {
	for text, want := range map[string]string{
		"": "", "[1, 2]": "[1, 2]", `"a b"`: `""`, `( "a" ")" #n)`: `( "" "" #n)`, `"\" "`: `""`, `"\\" 1 "\\\" "`: `"" 1 ""`, `{"a":"b c","":1}`: `{"":"","":1}`, "\"\t\"\t": "\"\"\t",
	} {
		if got := prints.Outside(text); got != want {
			t.Errorf("%s: %s", text, got)
		}
	}
}
