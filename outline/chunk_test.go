package outline_test

import (
	"strings"
	"testing"

	"hexapla/api"
)

// samples are texts with all kinds of ends.
var samples = []string{
	"", "\n", "\n\n", " ", "#", "  # x\n", "null", "null\n", "\n \n-5\n#", "[1, {}]", "&a [*a]", "1\n2", "1\n  2", "x", "x:", "x :\n", "-", "-\n", "- ", "-x", "- 1\n-2", "- 1\n- 2\n", "-\n  - 1\n  -\n- 2", "a:\n  b:\n    - 1\nc: 2\n",
	"a: 1\nb:\n  - x: 2", "a: &k [1]\nb: *k", "a: &k 1\nb: &k 2", "- &a\n  - 1\n- *a", " a: 1", "a: 1\n   b: 2", "a:\n b: 1", "a:\n  b:\n c: 1", "a: 1\na: 2", "\"x\"\ny: 1", "a: \xff", "a: 1\n\xc3", "a: 1\n\xc3\n", "a: 1\nb: é\xff\n", "a\n\xff",
	"- 1e1000\n- 1", "- 12.\n", "- \"\\x\"", "- \"a", "- [[[[[[", "[[[[[[[", strings.Repeat("#", 160), strings.Repeat("#", 161), "- 1\n" + strings.Repeat("-", 161) + "\n", strings.Repeat(" ", 160) + "\n1", strings.Repeat("n", 17) + ": 1\n",
}

// TestSamples holds each sample in pieces, and some of the ends.
func TestSamples(t *testing.T) {
	syntax.Samples(t, samples...)
	syntax.Check(t, "a: 1\nb:\n  - x: 2", `{ "a": 1 "b": [`, api.ErrSyntax, 12)
	syntax.Check(t, "a: 1\n   b: 2", `{ "a": 1`, api.ErrIndent, 8)
	syntax.CheckOK(t, "a: &k [1]\nb: *k", `{ "a": [ 1 ] "b": [ 1 ] }`)
}

// TestOnlyClose holds what only Close shows: the end of the last line, if it has
// no newline, and of what the next line could go on with.
func TestOnlyClose(t *testing.T) {
	syntax.OnlyClose(t, "", "", "", api.ErrSyntax, 0)
	syntax.OnlyClose(t, "#\n\n", "", "", api.ErrSyntax, 3)
	syntax.OnlyClose(t, "[1]", "", "[ 1 ]", api.OK, 3)
	syntax.OnlyClose(t, "[1]\n", "[ 1 ]", "", api.OK, 4)
	syntax.OnlyClose(t, "[1]\n#", "[ 1 ]", "", api.OK, 5)
	syntax.OnlyClose(t, "[1]\n2", "[ 1 ]", "", api.ErrSyntax, 4)
	syntax.OnlyClose(t, "- 1", "", "[ 1 ]", api.OK, 3)
	syntax.OnlyClose(t, "- 1\n", "[ 1", "]", api.OK, 4)
	syntax.OnlyClose(t, "-\n", "[", "null ]", api.OK, 2)
	syntax.OnlyClose(t, "-\n\n  #\n", "[", "null ]", api.OK, 7)
	syntax.OnlyClose(t, "-\n  a:\n", `[ { "a":`, "null } ]", api.OK, 7)
	syntax.OnlyClose(t, "-\n  a:\n-", `[ { "a":`, "null } null ]", api.OK, 8)
	syntax.OnlyClose(t, "-\n  a:\n b", `[ { "a":`, "null }", api.ErrIndent, 8)
	syntax.OnlyClose(t, "- 1\n  2", "[ 1", "", api.ErrIndent, 6)
	syntax.OnlyClose(t, "x", "", "", api.ErrSyntax, 1)
	syntax.OnlyClose(t, "- x", "", "[", api.ErrSyntax, 2)
	syntax.OnlyClose(t, "- 1\n- x", "[ 1", "", api.ErrSyntax, 6)
	syntax.OnlyClose(t, "- 1\n- \xc3", "[ 1", "", api.ErrUTF, 7)
	syntax.OnlyClose(t, "- 1\n- "+strings.Repeat(" ", 158), "[ 1", "null ]", api.OK, 164)
}

// TestEventually holds that the events of a line come before Close, and those
// that it ends, when nothing or no line with a meaning follows for long.
func TestEventually(t *testing.T) {
	for text, want := range map[string]string{
		"1\n": "1", "- 1\n": "[ 1", "-\n": "[", "-\n-\n": "[ null", "a: [1, {}]\n": `{ "a": [ 1 { }` + " ]", "a:\n  - 1\nb:\n": `{ "a": [ 1 ] "b":`, "a:\n  b:\nc: *": `{ "a": { "b":`, "- &a\n": "[", "- &a 1\n- *a\n": "[ 1 1",
	} {
		syntax.Eventually(t, text, "", want)
		if strings.HasSuffix(text, "\n") {
			syntax.Eventually(t, text, "\n", want)
			syntax.Eventually(t, text, "   #\n", want)
		}
	}
}

func TestFedBehindError(t *testing.T) {
	for _, text := range []string{"- 1\nb: 2\n", "- x\n", "1\n2\n", "- 1\n- \xff", strings.Repeat("#", 161), "- 1\n   - 2\n"} {
		syntax.FedBehind(t, text, "", "1\n", "\xff", "- 2\n", "\"", "\n\n", strings.Repeat("x", 99))
	}
}

func TestIndependent(t *testing.T) {
	syntax.Independent(t, "a: &k [1]\nb: *k\n", "- &k 2\n- *k\n-", "- *k\n", "[1, \"x\"]", "a:\n  b:\n    c: &l x\n", "- 1\n  - 2", "a: 1\na: 2\n", "- &k\n  - &l 3\n  - *l\n- *k")
}

func TestAnswerIsKept(t *testing.T) {
	syntax.Kept(t, "abc: &def \"ghi\"\njkl: [*def, 12]\n", "mno: &pqr \"stu\"\nvwx: [*pqr, 34]\n")
}

// TestLongText holds a text with many events, fed whole and in pieces.
func TestLongText(t *testing.T) {
	text := strings.Repeat("-\n  id: 10\n  name: \"a\\tb\"\n\n  tags:\n    - \"x\"\n    - [[], {\"k\": null}]\n    -\n  # -\n  ok: true\n", 3000)
	want := strings.Repeat(` { "id": 1e1 "name": "a\tb" "tags": [ "x" [ [ ] { "k": null } ] null ] "ok": true }`, 3000)
	syntax.Long(t, text, "["+want+" ]")
	syntax.Long(t, strings.Repeat("-\n", 5000), "["+strings.Repeat(" null", 5000)+" ]")
	comments := strings.Repeat("  # \"\n\n"+strings.Repeat(" ", 160)+"\n", 1000)
	syntax.Long(t, comments+"-\n"+comments+"  -\n"+comments+"- 1\n"+comments, "[ [ null ] 1 ]")
}
