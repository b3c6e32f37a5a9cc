package sections_test

import (
	"strings"
	"testing"

	"hexapla/api"
)

// samples are texts with all kinds of ends.
var samples = []string{
	"", "\n", "\n\n", " ", "#", "  # x\n", "[a]", "[a]\n", "[[a]]\n", " [a.b] \n", "[a", "[[a]", "[a]]", "[", "[]", "[a]x\n", "a = 1", "a = 1\n", "a=1\n#\n", "a", "a.", "a =", "a = x\n", "= 1", "a.b = 1\na.c = 2\nd = 3\n",
	"a = 1\n[b.c]\nd.e = \"x\"", "[[r]]\nk = 1\n[[r]]", "[a]\n[b]\n[a.c]", "[a]\n[a]", "[[a]]\n[[a.b]]\n[[a.b]]\n[[a]]", "[[a]]\n[a]", "a = 1\na = 2\nb = 3", "a = {b = [1, true], \"c\" = {}}\n", "a = [[[[[[", "[a.b.c.d.e.f]\n", "[[a.b.c.d.e]]\n",
	"\"a b\".\"\" = 1\n", "a = \xff", "a = 1\n\xc3", "a = 1\n\xc3\n", "a = 1\nb = \"é\"\xff\n", "#\n\xff", "a = 1e1000\nb = 1", "a = 12.\n", "a = \"\\x\"", "a = \"b", "\"a", strings.Repeat("#", 160), strings.Repeat("#", 161), "a = 1\n" + strings.Repeat("x", 161) + "\n",
	strings.Repeat(" ", 160) + "\na = 1", strings.Repeat("n", 17) + " = 1\n", "[" + strings.Repeat("n", 16) + "]\n",
}

// TestSamples holds each sample in pieces, and the examples of the chapter.
func TestSamples(t *testing.T) {
	syntax.Samples(t, samples...)
	syntax.CheckOK(t, "a = 1\n[b.c]\nd.e = \"x\"", `{ "a": 1 "b": { "c": { "d": { "e": "x" } } } }`)
	syntax.CheckOK(t, "[[r]]\nk = 1\n[[r]]", `{ "r": [ { "k": 1 } { } ] }`)
	syntax.Check(t, "[a]\n[b]\n[a.c]", `{ "a": { } "b": { }`, api.ErrTwice, 12)
	syntax.Check(t, "[a]\n[a]", `{ "a": { }`, api.ErrTwice, 6)
	syntax.CheckOK(t, "", "{ }")
	syntax.Check(t, "a = null", `{ "a":`, api.ErrSyntax, 4)
	syntax.CheckOK(t, "a.b = 1\na.c = 2", `{ "a": { "b": 1 "c": 2 } }`)
	syntax.CheckOK(t, "a = [1, \"x\"]", `{ "a": [ 1 "x" ] }`)
}

// TestOnlyClose holds what only Close shows: the end of the last line, if it has
// no newline, and of the steps that the next line could keep.
func TestOnlyClose(t *testing.T) {
	syntax.OnlyClose(t, "", "", "{ }", api.OK, 0)
	syntax.OnlyClose(t, "\n", "", "{ }", api.OK, 1)
	syntax.OnlyClose(t, "#\n\n  # x\n", "", "{ }", api.OK, 9)
	syntax.OnlyClose(t, "#\n   ", "", "{ }", api.OK, 5)
	syntax.OnlyClose(t, "a = 1", "", `{ "a": 1 }`, api.OK, 5)
	syntax.OnlyClose(t, "a = 1\n", `{ "a": 1`, "}", api.OK, 6)
	syntax.OnlyClose(t, "a = [1]\n#", `{ "a": [ 1 ]`, "}", api.OK, 9)
	syntax.OnlyClose(t, "[a.b]", "", `{ "a": { "b": { } } }`, api.OK, 5)
	syntax.OnlyClose(t, "[a.b]\n", `{ "a": { "b": {`, "} } }", api.OK, 6)
	syntax.OnlyClose(t, "[[a]]\n[[a.b]]\n", `{ "a": [ { "b": [ {`, "} ] } ] }", api.OK, 14)
	syntax.OnlyClose(t, "[[a]]\n[[a]]", `{ "a": [ {`, "} { } ] }", api.OK, 11)
	syntax.OnlyClose(t, "a.b = 1\nc = 2", `{ "a": { "b": 1`, `} "c": 2 }`, api.OK, 13)
	syntax.OnlyClose(t, "a", "", "", api.ErrSyntax, 1)
	syntax.OnlyClose(t, "a = x", "", `{ "a":`, api.ErrSyntax, 4)
	syntax.OnlyClose(t, "a = 1\na = 1", `{ "a": 1`, "", api.ErrTwice, 8)
	syntax.OnlyClose(t, "a = 1\nb\xc3", `{ "a": 1`, "", api.ErrUTF, 8)
	syntax.OnlyClose(t, "a = 1\nb"+strings.Repeat(" ", 159), `{ "a": 1`, "", api.ErrSyntax, 166)
}

// TestEventually holds that the events of a line come before Close, when nothing
// or no line with a meaning follows for long.
func TestEventually(t *testing.T) {
	for text, want := range map[string]string{
		"": "", "# x\n": "", "a = 1\n": `{ "a": 1`, "a.b = [1, {}]\n": `{ "a": { "b": [ 1 { } ]`, "[a]\n": `{ "a": {`, "[a]\n[b]\n": `{ "a": { } "b": {`, "[[a]]\n[[a.b]]\n[[a]]\n": `{ "a": [ { "b": [ { } ] } {`, "[a]\nb = ": `{ "a": {`, "[[a]]\nb.c = 1\nd = 2\n": `{ "a": [ { "b": { "c": 1 } "d": 2`,
	} {
		syntax.Eventually(t, text, "", want)
		if strings.HasSuffix(text, "\n") {
			syntax.Eventually(t, text, "\n", want)
			syntax.Eventually(t, text, "   #\n", want)
		}
	}
}

func TestFedBehindError(t *testing.T) {
	for _, text := range []string{"a = 1\n[a]\n", "a = x\n", "[a\n", "a = 1\nb = \xff", strings.Repeat("#", 161), "[[a]\n", "a = 1 2\n"} {
		syntax.FedBehind(t, text, "", "b = 1\n", "\xff", "[b]\n", "\"", "\n\n", strings.Repeat("x", 99))
	}
}

func TestIndependent(t *testing.T) {
	syntax.Independent(t, "[a]\nb = 1\n", "[[a]]\n[[a]]\nb = 2\n", "a.b = 1\na.c = 2", "[a]\n[a]\n", "# x\n", "[[a]]\n[a.b]\n[[a]]\n[a.b]\n", "a = [1, \"x\"]\n", "a = 1\n[b")
}

func TestAnswerIsKept(t *testing.T) {
	syntax.Kept(t, "[[abc]]\ndef.\"ghi\" = [\"jkl\", 12]\n", "[[mno]]\npqr.\"stu\" = [\"vwx\", 34]\n")
}

// TestLongText holds texts with many events, fed whole and in pieces.
func TestLongText(t *testing.T) {
	text := strings.Repeat("[[rows]]\nid = 10\nname = \"a\\tb\"\n\n# =\n[rows.tags]\na.b = [\"x\", false]\na.c = {}\n[[rows.sub]]\n[[rows.sub]]\nok = true\n", 2000)
	want := strings.Repeat(` { "id": 1e1 "name": "a\tb" "tags": { "a": { "b": [ "x" false ] "c": { } } } "sub": [ { } { "ok": true } ] }`, 2000)
	syntax.Long(t, "x = 1\n"+text, `{ "x": 1 "rows": [`+want+" ] }")
	syntax.Long(t, strings.Repeat("[[a]]\n", 5000), `{ "a": [`+strings.Repeat(" { }", 5000)+" ] }")
	comments := strings.Repeat("  # \"\n\n"+strings.Repeat(" ", 160)+"\n", 1000)
	syntax.Long(t, comments+"[[a]]\n"+comments+"b.c = 1\n"+comments+"b.d = 2\n"+comments, `{ "a": [ { "b": { "c": 1 "d": 2 } } ] }`)
	syntax.Long(t, comments, "{ }")
}
