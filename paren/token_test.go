package paren_test

import (
	"strconv"
	"testing"

	"hexapla/api"
	"hexapla/texts"
)

// aheads are what any value may stand behind, and the events of it.
var aheads = []texts.Pair{{Text: "", Want: ""}, {Text: "(", Want: "["}, {Text: "(#n", Want: "[ null"}, {Text: `#("a"`, Want: `{ "a":`}, {Text: ";\n", Want: ""}}

// stringAheads are what a string may stand behind, whatever it stands for.
var stringAheads = append(aheads, []texts.Pair{
	{Text: "(1", Want: "[ 1"}, {Text: "#(", Want: "{"}, {Text: `#("a"1`, Want: `{ "a": 1`}, {Text: "#<", Want: ""}, {Text: `#<"e"`, Want: "<e"}, {Text: `#<"e"@`, Want: "<e"},
	{Text: `#<"e"@"k"`, Want: "<e"}, {Text: `#<"e"@"k""v"`, Want: `<e @k="v"`}, {Text: `#<"e"#<"f")`, Want: "<e <f >"},
}...)

func TestNumbers(t *testing.T) {
	for _, l := range append(texts.Numbers(), texts.LongNumbers()...) {
		for _, blank := range []string{"", " ", "\t", "\n", "\r", ";", "; x", ";\n"} {
			syntax.CheckOK(t, l.Text+blank, l.Want)
		}
		for _, more := range []string{"(", ")", "#", `"`, "-", "x", "@", "<", ",", "/", "+", "\x00", "\xc3"} {
			syntax.CheckLast(t, l.Text+more, l.Want, api.ErrSyntax)
		}
		for more, want := range map[string]string{"()": " [ ]", "#()": " { }", `"a"`: ` "a"`, "#n": " null", "-2": " -2", " 3": " 3", ";\n4": " 4", "": ""} {
			syntax.CheckOK(t, "("+l.Text+more+")", "[ "+l.Want+want+" ]")
		}
		syntax.CheckOK(t, "("+l.Text+";\n"+l.Text+" "+l.Text+"\t)", "[ "+l.Want+" "+l.Want+" "+l.Want+" ]")
		syntax.CheckOK(t, `#("a"`+l.Text+`"b" `+l.Text+")", `{ "a": `+l.Want+` "b": `+l.Want+" }")
		syntax.CheckLast(t, l.Text+"\xff", "", api.ErrUTF) // the number is not reported there
		syntax.CheckLast(t, l.Text+";\xff", l.Want, api.ErrUTF)
		syntax.CheckLast(t, "("+l.Text+"x", "[ "+l.Want, api.ErrSyntax)
		syntax.CheckLast(t, `#("a"`+l.Text+"#", `{ "a": `+l.Want, api.ErrSyntax)
		syntax.CheckLast(t, "("+l.Text+"#x", "[ "+l.Want, api.ErrSyntax)
		syntax.CheckLast(t, "("+l.Text+"-)", "[ "+l.Want, api.ErrSyntax)
		syntax.CheckOpen(t, "("+l.Text, "[ "+l.Want)
		syntax.CheckOpen(t, "("+l.Text+"#", "[ "+l.Want)
	}
}

// TestLongestNumber holds where a number ends: where none goes on.
func TestLongestNumber(t *testing.T) {
	syntax.CheckOK(t, "(1-2)", "[ 1 -2 ]")
	syntax.CheckOK(t, "(01)", "[ 0 1 ]")
	syntax.CheckOK(t, "(00-00)", "[ 0 0 0 0 ]")
	syntax.CheckOK(t, "(-1-1.5-1e5-1e-5)", "[ -1 -15e-1 -1e5 -1e-5 ]")
	syntax.Check(t, "01", "0", api.ErrSyntax, 1)
	syntax.Check(t, "-01", "0", api.ErrSyntax, 2)
	syntax.Check(t, "1-2", "1", api.ErrSyntax, 1)
	syntax.Check(t, "(1+2)", "[ 1", api.ErrSyntax, 2)
	syntax.Check(t, "(1.5.2)", "[ 15e-1", api.ErrSyntax, 4)
	syntax.Check(t, "(1e5e)", "[ 1e5", api.ErrSyntax, 4)
	syntax.Check(t, "(1 .5)", "[ 1", api.ErrSyntax, 3)
	syntax.Check(t, "(- 1)", "[", api.ErrSyntax, 2)
	syntax.Check(t, "(1--2)", "[ 1", api.ErrSyntax, 3)
	syntax.Check(t, "(1e--2)", "[", api.ErrSyntax, 4)
	syntax.Check(t, "(0x1)", "[ 0", api.ErrSyntax, 2)
	for _, text := range []string{"+1", ".5", "e5", "Infinity", "NaN", "\u0661"} {
		syntax.Check(t, text, "", api.ErrSyntax, 0)
		syntax.Check(t, "(2 "+text, "[ 2", api.ErrSyntax, 3)
	}
	ones := texts.LongNumbers()[0].Text
	syntax.CheckOK(t, "("+ones+"-"+ones[1:]+"-"+ones[1:]+")", "[ "+ones+" -"+ones[1:]+" -"+ones[1:]+" ]") // each has 30 bytes
	syntax.CheckOK(t, "(0"+ones+")", "[ 0 "+ones+" ]")
}

// TestNoNumbers asks for what a number begins with and is none, for numbers of
// more than 30 bytes, and for such as num.Read rejects.
func TestNoNumbers(t *testing.T) {
	for _, ahead := range append(aheads, texts.Pair{Text: "((((((", Want: "[ [ [ [ [ ["}) {
		syntax.NoNumbers(t, ahead, " ", "\t", ";", "(", ")", "#", "x", "@", "<", `"`, "n", "\xc3")
	}
	syntax.CheckLast(t, "(1e1000-", "[", api.ErrNumber)
	syntax.CheckOK(t, "(0e1000 1e999 0.1e1000)", "[ 0 1e999 1e999 ]")
}

func TestStrings(t *testing.T) {
	for _, l := range append(texts.Quoted(), texts.LongQuoted()...) {
		want := strconv.Quote(l.Want)
		syntax.CheckOK(t, l.Text, want)
		syntax.CheckOK(t, " "+l.Text+";", want)
		syntax.CheckOK(t, "("+l.Text+l.Text+" "+l.Text+")", "[ "+want+" "+want+" "+want+" ]")
		syntax.CheckOK(t, "#("+l.Text+l.Text+")", "{ "+want+": "+want+" }")
		syntax.CheckOK(t, "#("+l.Text+"("+l.Text+"))", "{ "+want+": [ "+want+" ] }")
		syntax.CheckOK(t, `#<"e"@"k"`+l.Text+`@"l" `+l.Text+")", "<e @k="+want+" @l="+want+" >")
		if l.Want != "" {
			syntax.CheckOK(t, `#<"e"`+l.Text+`#<"f"`+l.Text+")"+l.Text+")", "<e "+want+" <f "+want+" > "+want+" >")
		}
	}
}

// TestNoStrings asks for strings that do not end, and for such as are none.
func TestNoStrings(t *testing.T) {
	for _, ahead := range stringAheads {
		syntax.NoStrings(t, ahead)
	}
}

// TestNoCharacters asks for bytes that form no characters, outside of strings.
func TestNoCharacters(t *testing.T) {
	for _, bytes := range texts.CutCharacters() {
		syntax.Check(t, bytes, "", api.ErrSyntax, 0) // an earlier error
		syntax.Check(t, "1 "+bytes, "1", api.ErrSyntax, 2)
		syntax.Check(t, "(1;"+bytes, "[ 1", api.ErrUTF, 3+len(bytes)) // in a comment, any character may stand
		syntax.Check(t, "(1;"+bytes+"\n)", "[ 1", api.ErrUTF, 3+len(bytes))
	}
	for _, ahead := range stringAheads {
		want := ahead.Want
		if ahead.Text == "(1" {
			want = "[" // the number is not reported there
		}
		if ahead.Text == `#("a"1` {
			want = `{ "a":`
		}
		for _, bytes := range []string{"\xff", "\x80", "\xc0", "\xf5"} {
			syntax.CheckLast(t, ahead.Text+bytes, want, api.ErrUTF)
		}
	}
	syntax.CheckLast(t, "#\xff", "", api.ErrUTF)
	syntax.CheckLast(t, "##", "", api.ErrSyntax)
	syntax.CheckLast(t, "#n\xff", "null", api.ErrUTF)
	syntax.CheckLast(t, "((((((\xff", "[ [ [ [ [ [", api.ErrUTF)
	syntax.CheckLast(t, ";é\xff", "", api.ErrUTF)
	syntax.Check(t, "#é", "", api.ErrSyntax, 1)
	syntax.Check(t, "é", "", api.ErrSyntax, 0)
	syntax.Check(t, "(é", "[", api.ErrSyntax, 1)
	syntax.Check(t, "\ufeff#n", "", api.ErrSyntax, 0)
}

// TestTwoErrors asks for two errors at one byte.
func TestTwoErrors(t *testing.T) {
	ten, want := fields(10)
	syntax.CheckLast(t, "#("+ten+`"k0"`, "{ "+want, api.ErrTwice) // which is an eleventh field, too
	ten, want = attrs(10)
	syntax.CheckLast(t, `#<"e"`+ten+`@"k0"`, "<e "+want, api.ErrTwice)
	syntax.CheckLast(t, `#<"e"`+ten+`@"0"`, "<e "+want, api.ErrName) // which would be an eleventh one
	syntax.CheckLast(t, "((((((1e1000(", "[ [ [ [ [ [", api.ErrNumber)
	syntax.CheckLast(t, "((((((1(", "[ [ [ [ [ [ 1", api.ErrDepth) // the number is reported ahead of it
	syntax.CheckLast(t, "(((((#((", "[ [ [ [ [ {", api.ErrSyntax)  // where no list may stand, however deep
	syntax.CheckLast(t, `(((((#<"e"(`, "[ [ [ [ [ <e", api.ErrSyntax)
	syntax.CheckLast(t, `(((((#<"e"#(`, "[ [ [ [ [ <e", api.ErrSyntax)
	syntax.CheckLast(t, "(((((#(#", "[ [ [ [ [ {", api.ErrSyntax)
	syntax.Check(t, "(1e1000", "[", api.ErrNumber, 7) // the text is incomplete, too
	syntax.Check(t, "1e1000\xff", "", api.ErrUTF, 6)
	syntax.Check(t, `#("a"1"a`+"\xff", `{ "a": 1`, api.ErrUTF, 8)
	syntax.CheckLast(t, `#<"e""x""`, `<e "x"`, api.ErrSyntax) // where no string may stand, be it empty or not
}
