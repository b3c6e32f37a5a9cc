package delim_test

import (
	"strings"
	"testing"

	"hexapla/api"
)

// samples are texts with all kinds of ends.
var samples = []string{
	"", "\n", ",", `"`, `""`, "a", "a\n", "a\n\n", "a\n\n\n", "a,b\n1,\"x\"\"y\"\n", "a,b\n1,2\n,\n\"\",\"\"", "a\n1\n2", "a,b\n1\n", "a,b\n1", "a,b\n\n", "a\n1,", "a\n1,2\n", "a,a\n", `a,"a"`, "a,", ",a,",
	"a,b,c,d,e,f,g,h,", "a,b,c,d,e,f,g,a,", "a,b,c,d,e,f,g,h\n1,2,3,4,5,6,7,8\n", "a\tb", "\t", "a\n1\"", "a\n\"1\"2", "a\n\"1", "a\n\"1\"\"", "a\n\"1\"\"\"", "\"\n\",\",\"\n\"\t\",é",
	"\xff", "a\n1\xff", "a\n\"\xe2\x82", "a\n\"\xe2\x82\"", "a\n\xc3", "é\n\U0001f600\n", "a\n" + strings.Repeat("x", 49), "a\n\"" + strings.Repeat(`""`, 49) + "\"",
}

// TestSamples holds each sample in pieces, and some of the ends.
func TestSamples(t *testing.T) {
	syntax.Samples(t, samples...)
	syntax.CheckOK(t, "a,b\n1,2\n,\n\"\",\"\"", table(letters(2), words("1 2"), []string{"", ""}, []string{"", ""}))
	syntax.CheckOK(t, "\"\n\",\",\"\n\"\t\",é", `[ { "\n": "\t" ",": "é" } ]`)
}

// TestReportedAt holds where events are reported: those of a cell with the byte
// behind it.
func TestReportedAt(t *testing.T) {
	syntax.ReportedAt(t, "a,b\n1,22\n", "[@0 {@5 a:@5 1@5 b:@8 22@8 }@8")
	syntax.ReportedAt(t, "\"a\",b\n\"\"\"\n\",\n,", `[@0 {@11 a:@11 \\n@11 b:@12 @12 }@12 {@13 a:@13 @13`)
	syntax.ReportedAt(t, "\n\n\nx\n", "[@0 {@1 :@1 @1 }@1 {@2 :@2 @2 }@2 {@4 :@4 x@4 }@4")
	syntax.ReportedAt(t, "a,,b,c", "[@0")
	syntax.ReportedAt(t, "é,b\n,\"1\"", "[@0 {@5 é:@5 @5")
}

// TestOnlyClose holds what only Close shows: that a cell and a row have ended, and
// the table.
func TestOnlyClose(t *testing.T) {
	syntax.OnlyClose(t, "", "", "[ ]", api.OK, 0)
	syntax.OnlyClose(t, "a", "[", "]", api.OK, 1)
	syntax.OnlyClose(t, "\n", "[", "]", api.OK, 1)
	syntax.OnlyClose(t, "a\n1", "[", `{ "a": "1" } ]`, api.OK, 3)
	syntax.OnlyClose(t, "a\n1\n", `[ { "a": "1" }`, "]", api.OK, 4)
	syntax.OnlyClose(t, "a\n\"1\"", "[", `{ "a": "1" } ]`, api.OK, 5)
	syntax.OnlyClose(t, "a\n\"1\"\"", "[", "", api.ErrSyntax, 6)
	syntax.OnlyClose(t, "a,b\n1,", `[ { "a": "1"`, `"b": "" } ]`, api.OK, 6)
	syntax.OnlyClose(t, "a,b\n1", "[", `{ "a": "1"`, api.ErrCount, 5)
	syntax.OnlyClose(t, "a,b,c\n1,2", `[ { "a": "1"`, `"b": "2"`, api.ErrCount, 9)
	syntax.OnlyClose(t, "a,a", "[", "", api.ErrTwice, 3)
	syntax.OnlyClose(t, ",", "[", "", api.ErrTwice, 1)
	syntax.OnlyClose(t, "a\n1\xc3", "[", "", api.ErrUTF, 4)
}

// TestEventually holds that events come before Close, when nothing follows for
// long.
func TestEventually(t *testing.T) {
	for text, want := range map[string]string{
		"a": "[", "a,b\n": "[", "a,b\n1,": `[ { "a": "1"`, "a,b\n1,2\n": `[ { "a": "1" "b": "2" }`, "a\n\n": `[ { "a": "" }`,
	} {
		syntax.Eventually(t, text, "", want)
	}
}

func TestFedBehindError(t *testing.T) {
	syntax.FedBehind(t, "a\n1\t", "", "1\n", "\xff", ",", "\"", strings.Repeat("x", 99))
	syntax.FedBehind(t, "a,b\n1\n", "", "2\n", "\xff", ",", "\"")
}

func TestIndependent(t *testing.T) {
	syntax.Independent(t, "a,b\n1,2\n3,4\n", "c\n\"x\"\"y\"\n\n", "a,b,a,c", "\"a\",b\n1\n2", "a\n"+strings.Repeat("x", 49))
}

func TestAnswerIsKept(t *testing.T) {
	syntax.Kept(t, "abc,def\nghi,\"jkl\"\n", "mno,\"pqr\"\nstu,vwx\n")
}

// TestLongText holds a text with many events, fed whole and in pieces.
func TestLongText(t *testing.T) {
	names := words("id name note empty")
	text := strings.Repeat("10,\"a\"\"b\",\"x,\n\",\n\"\",,\"\n\n\",é\n", 3000)
	want := strings.Repeat(row(names, []string{"10", `a"b`, "x,\n", ""})+" }"+row(names, []string{"", "", "\n\n", "é"})+" }", 3000)
	syntax.Long(t, "id,name,note,empty\n"+text, "["+want+" ]")
	syntax.Long(t, strings.Repeat("\n", 5000), "["+strings.Repeat(` { "": "" }`, 4999)+" ]")
}
