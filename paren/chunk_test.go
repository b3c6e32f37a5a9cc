package paren_test

import (
	"strings"
	"testing"

	"hexapla/api"
)

// samples are texts with all kinds of ends.
var samples = []string{
	"", " ", ";", "; x\n", "#n", " #t ", "#f;x", "12", "12 ", "12;", "(1-2)", "(1 2)#", `#("a"-1.5e3"b"())`, `("\u00e9""é"#f)`, `#("a"1"a"2)`, "(1 #x", "(1e1000)", "1.", "#", "##",
	"(((((((", "((((((#<", "()) ", `"a`, `"\x"`, "12\xff", ";\xff\n1", "\"\xe2\x82", "\"\xe2\x82\"", "1\xc3\xa9", `#("k"#("k"#n)"l""m")`,
	`#<"e")`, `#<"e"@"k""v"`, `#<"e"@"k""v")`, `#<"e""x")`, `#<"e""")`, `#<"e""x""y")`, `#<"e"#<"f"))`, `#<"1"`, `#<"e"@"1"`, `#<"e"@"k"""@"k"`, `#<"{u}e"@"{u}k" "v" "x" #<"f") "y") ; z`,
}

// TestSamples holds each sample in pieces, and some of the ends.
func TestSamples(t *testing.T) {
	syntax.Samples(t, samples...)
	syntax.Check(t, "(1 #x", "[ 1", api.ErrSyntax, 4)
	syntax.Check(t, `#("a"1"a"2)`, `{ "a": 1`, api.ErrTwice, 8)
	syntax.CheckOK(t, `#<"{u}e"@"{u}k" "v" "x" #<"f") "y") ; z`, `<{u}e @{u}k="v" "x" <f > "y" >`)
}

func TestReportedAt(t *testing.T) {
	syntax.ReportedAt(t, `( #("a" 10 ;x`+"\n"+` "b"#t)-1;`+"\n"+`"c"1() #n #f)  `, "[@0 {@3 a:@6 1e1@10 b:@17 true@19 }@20 -1@23 c@27 1@29 [@29 ]@30 null@33 false@36 ]@37")
	syntax.ReportedAt(t, `#< "e" @ "k" "v"@"l""" "x" #<"f") "y" )  `, "<e@5 @k=v@15 @l=@21 x@25 <f@31 >@32 y@36 >@38")
}

// TestEventually holds that events come before Close, whatever follows them.
func TestEventually(t *testing.T) {
	for text, want := range map[string]string{
		"(1 ": "[ 1", "(1;": "[ 1", "(1(": "[ 1 [", "(1 \"a\"": `[ 1 "a"`, "#n": "null", "12 ": "12", "()": "[ ]", `#("a"`: `{ "a":`, `#("a"#f`: `{ "a": false`, "((#(": "[ [ {",
		`#<"e"`: "<e", `#<"e"@"k"`: "<e", `#<"e"@"k""v"`: `<e @k="v"`, `#<"e""x"`: `<e "x"`, `#<"e"#<"f")`: "<e <f >",
	} {
		for _, blanks := range []string{" ", "\n", "; \n"} {
			syntax.Eventually(t, text, blanks, want)
		}
		if strings.TrimRight(text, " ") == text {
			syntax.Eventually(t, text+";", "x", want) // the comment does not end
		}
	}
}

// TestCloseEndsNumber holds that only Close shows that a number has ended.
func TestCloseEndsNumber(t *testing.T) {
	syntax.OnlyClose(t, "12", "", "12", api.OK, 2)
	syntax.OnlyClose(t, "1e1000", "", "", api.ErrNumber, 6)
	syntax.OnlyClose(t, "1.", "", "", api.ErrSyntax, 2)
	syntax.OnlyClose(t, "(1", "[", "1", api.ErrSyntax, 2)
	syntax.OnlyClose(t, "(1 ", "[ 1", "", api.ErrSyntax, 3)
	syntax.OnlyClose(t, "12;", "12", "", api.OK, 3)
	syntax.OnlyClose(t, "#", "", "", api.ErrSyntax, 1)
	syntax.OnlyClose(t, "", "", "", api.ErrSyntax, 0)
}

func TestFedBehindError(t *testing.T) {
	syntax.FedBehind(t, "(1]", "", "1)", "\xff", ")", strings.Repeat("(", 9))
}

func TestIndependent(t *testing.T) {
	syntax.Independent(t, `#("a"(1 2))`, `("a\u00e9b")  `, "(12345678 x", `#("a"1"a"`, "#t       ;", `#<"e"@"k""v""x")`, `#<"f"@"k""w"@"k"`)
}

func TestAnswerIsKept(t *testing.T) {
	syntax.Kept(t, `("abc" 12 #<"def" @"g" "h" "i"))`, `("jkl" 34 #<"mno" @"p" "q" "r"))`)
}

// TestLongText holds a text with many events, fed whole and in pieces.
func TestLongText(t *testing.T) {
	row := `#("id"10"name""a\tb""tags"("x""y"())"ok"#t"no"#n"e"#<"e"@"k""v""x"#<"f")))`
	want := ` { "id": 1e1 "name": "a\tb" "tags": [ "x" "y" [ ] ] "ok": true "no": null "e": <e @k="v" "x" <f > > }`
	const rows = 3000
	text := "(" + strings.Repeat(row+" ;)\n", rows-1) + row + ")"
	syntax.Long(t, text, "["+strings.Repeat(want, rows)+" ]")
	if r := syntax.Read(t, text+"x"); len(r.Events) != 2+rows*24 || r.Err != api.ErrSyntax || r.At != len(text) {
		t.Error(len(r.Events), r.Err, r.At)
	}
}

// TestLongComment holds a comment that is longer than any other token may be.
func TestLongComment(t *testing.T) {
	long := ";" + strings.Repeat(`)"#\`, 5000)
	syntax.Long(t, long+"\n(1"+long+"\n)"+long, "[ 1 ]")
}
