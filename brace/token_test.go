package brace_test

import (
	"strconv"
	"testing"

	"hexapla/api"
	"hexapla/texts"
)

// aheads are what a value may stand behind, and the events of it.
var aheads = []texts.Pair{{Text: "", Want: ""}, {Text: "[", Want: "["}, {Text: "[2, ", Want: "[ 2"}, {Text: `{"a":`, Want: `{ "a":`}}

func TestNumbers(t *testing.T) {
	for _, l := range append(texts.Numbers(), texts.LongNumbers()...) {
		syntax.CheckOK(t, l.Text, l.Want)
		syntax.CheckOK(t, l.Text+" ", l.Want)
		syntax.CheckOK(t, " "+l.Text+"\n", l.Want)
		syntax.CheckOK(t, "["+l.Text+"]", "[ "+l.Want+" ]")
		syntax.CheckOK(t, "["+l.Text+","+l.Text+" ,"+l.Text+"\t]", "[ "+l.Want+" "+l.Want+" "+l.Want+" ]")
		syntax.CheckOK(t, `{"a":`+l.Text+`,"b":`+l.Text+"}", `{ "a": `+l.Want+` "b": `+l.Want+" }")
		for _, more := range []string{"x", "]", "}", ",", ":", `"`, "[", "n", "/", "\x00", "é"} {
			syntax.Check(t, l.Text+more, l.Want, api.ErrSyntax, len(l.Text))
		}
		syntax.Check(t, l.Text+"\xff", "", api.ErrUTF, len(l.Text))
		syntax.Check(t, l.Text+" \xff", l.Want, api.ErrUTF, len(l.Text)+1)
		syntax.CheckOpen(t, "["+l.Text, "[ "+l.Want)
		syntax.Check(t, "["+l.Text+"}", "[ "+l.Want, api.ErrSyntax, len(l.Text)+1)
		syntax.Check(t, "["+l.Text+"x", "[ "+l.Want, api.ErrSyntax, len(l.Text)+1)
	}
}

// TestLongestNumber holds where a number ends: where none goes on.
func TestLongestNumber(t *testing.T) {
	syntax.Check(t, "01", "0", api.ErrSyntax, 1)
	syntax.Check(t, "-01", "0", api.ErrSyntax, 2)
	syntax.Check(t, "00", "0", api.ErrSyntax, 1)
	syntax.Check(t, "1-2", "1", api.ErrSyntax, 1)
	syntax.Check(t, "1+2", "1", api.ErrSyntax, 1)
	syntax.Check(t, "1.5.2", "15e-1", api.ErrSyntax, 3)
	syntax.Check(t, "1e5e", "1e5", api.ErrSyntax, 3)
	syntax.Check(t, "1e5.", "1e5", api.ErrSyntax, 3)
	syntax.Check(t, "1e5-", "1e5", api.ErrSyntax, 3)
	syntax.Check(t, "[1-2]", "[ 1", api.ErrSyntax, 2)
	syntax.Check(t, "[0 1]", "[ 0", api.ErrSyntax, 3)
	syntax.Check(t, "1 .5", "1", api.ErrSyntax, 2)
	syntax.Check(t, "- 1", "", api.ErrSyntax, 1)
	for _, text := range []string{"+1", ".5", "e5", "Infinity", "NaN", "\u0661"} {
		syntax.Check(t, text, "", api.ErrSyntax, 0)
	}
	syntax.Check(t, "0x1", "0", api.ErrSyntax, 1)
	syntax.Check(t, "-Infinity", "", api.ErrSyntax, 1)
	ones := texts.LongNumbers()[0].Text
	syntax.Check(t, ones+"-", ones, api.ErrSyntax, 30)
	syntax.Check(t, "0"+ones, "0", api.ErrSyntax, 1)
	syntax.Check(t, ones+ones, "", api.ErrToken, 30)
	syntax.CheckOK(t, "["+ones[:15]+","+ones[15:]+"]", "[ "+ones[:15]+" "+ones[15:]+" ]")
}

// TestNoNumbers asks for what a number begins with and is none, for numbers of
// more than 30 bytes, and for such as num.Read rejects.
func TestNoNumbers(t *testing.T) {
	for _, ahead := range append(aheads, texts.Pair{Text: "[[[[[[", Want: "[ [ [ [ [ ["}) {
		syntax.NoNumbers(t, ahead, " ", "\t", ",", "]", "}", ":", "x", "[", "{", `"`, "n", "\xc3")
	}
	syntax.Check(t, "1.x", "", api.ErrSyntax, 2)
	syntax.Check(t, "--1", "", api.ErrSyntax, 1)
	syntax.Check(t, "1..2", "", api.ErrSyntax, 2)
	syntax.Check(t, "1.e5", "", api.ErrSyntax, 2)
	syntax.Check(t, "1ee", "", api.ErrSyntax, 2)
	syntax.Check(t, "1e+-", "", api.ErrSyntax, 3)
	syntax.CheckOK(t, "[0e1000,1e999,0.1e1000]", "[ 0 1e999 1e999 ]")
}

func TestStrings(t *testing.T) {
	for _, l := range append(texts.Quoted(), texts.LongQuoted()...) {
		want := strconv.Quote(l.Want)
		syntax.CheckOK(t, l.Text, want)
		syntax.CheckOK(t, " "+l.Text+" ", want)
		syntax.CheckOK(t, "["+l.Text+","+l.Text+"]", "[ "+want+" "+want+" ]")
		syntax.CheckOK(t, "{"+l.Text+":"+l.Text+"}", "{ "+want+": "+want+" }")
		syntax.CheckOK(t, "{"+l.Text+":["+l.Text+"]}", "{ "+want+": [ "+want+" ] }")
	}
}

// TestNoStrings asks for strings that do not end, and for such as are none.
func TestNoStrings(t *testing.T) {
	for _, ahead := range append(aheads, texts.Pair{Text: "{", Want: "{"}, texts.Pair{Text: `{"a":1,`, Want: `{ "a": 1`}) {
		syntax.NoStrings(t, ahead)
	}
}

// TestNoCharacters asks for bytes that form no characters, outside of strings.
func TestNoCharacters(t *testing.T) {
	for _, bytes := range texts.CutCharacters() {
		syntax.Check(t, bytes, "", api.ErrSyntax, 0) // an earlier error
		syntax.Check(t, "1 "+bytes, "1", api.ErrSyntax, 2)
	}
	syntax.Check(t, "\xff", "", api.ErrUTF, 0)
	syntax.Check(t, " \xff", "", api.ErrUTF, 1)
	syntax.Check(t, "x\xff", "", api.ErrSyntax, 0)
	syntax.Check(t, "[1\xff", "[", api.ErrUTF, 2) // the number is not reported there
	syntax.Check(t, "[1,\xff", "[ 1", api.ErrUTF, 3)
	syntax.Check(t, "tru\xff", "", api.ErrUTF, 3)
	syntax.Check(t, "null\xff", "null", api.ErrUTF, 4)
	syntax.Check(t, "[[[[[[\xff", "[ [ [ [ [ [", api.ErrUTF, 6)
	syntax.Check(t, "[[[[[[[\xff", "[ [ [ [ [ [", api.ErrDepth, 6)
	syntax.Check(t, "é", "", api.ErrSyntax, 0)
	syntax.Check(t, "[é", "[", api.ErrSyntax, 1)
	syntax.Check(t, "1é", "1", api.ErrSyntax, 1)
	syntax.Check(t, "12\xff", "", api.ErrUTF, 2)
	syntax.Check(t, "1.\xff", "", api.ErrUTF, 2)
	syntax.Check(t, "1.\xc3\xff", "", api.ErrSyntax, 2)
}

// TestTwoErrors asks for two errors at one byte.
func TestTwoErrors(t *testing.T) {
	ten, want := fields(10)
	syntax.Check(t, "{"+ten+`,"k0"`, "{ "+want, api.ErrTwice, len(ten)+5) // which is an eleventh field, too
	syntax.Check(t, "[[[[[[1e1000[", "[ [ [ [ [ [", api.ErrNumber, 12)
	syntax.Check(t, "[[[[[[1[", "[ [ [ [ [ [ 1", api.ErrSyntax, 7) // where it may not stand, however deep
	syntax.Check(t, "[[[[[[][", "[ [ [ [ [ [ ]", api.ErrSyntax, 7)
	syntax.Check(t, `[[[[[{[`, `[ [ [ [ [ {`, api.ErrSyntax, 6)
	syntax.Check(t, `[[[[[{"a"[`, `[ [ [ [ [ { "a":`, api.ErrSyntax, 9)
	syntax.Check(t, "1e1000", "", api.ErrNumber, 6)
	syntax.Check(t, "[1e1000", "[", api.ErrNumber, 7) // the text is incomplete, too
	syntax.Check(t, "1e1000]", "", api.ErrNumber, 6)
	syntax.Check(t, "1e1000\xff", "", api.ErrUTF, 6)
	syntax.Check(t, `{"a":1,"a`+"\xff", `{ "a": 1`, api.ErrUTF, 9)
}
