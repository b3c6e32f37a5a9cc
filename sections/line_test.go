package sections_test

import (
	"strings"
	"testing"

	"hexapla/api"
	"hexapla/texts"
)

// comments are lines that have no meaning.
var comments = []string{"", " ", "     ", "#", "# x", "   #", " # [a]", "#\t\"\\x\x00é", "##", strings.Repeat(" ", 160), strings.Repeat("#", 160), strings.Repeat(" ", 159) + "#"}

// TestComments holds comments wherever they stand.
func TestComments(t *testing.T) {
	for _, c := range comments {
		for _, l := range []struct {
			lines []string
			want  string
		}{
			{[]string{"a = 1"}, `{ "a": 1 }`},
			{[]string{"a = 1", "b = 2"}, `{ "a": 1 "b": 2 }`},
			{[]string{"[a]", "b.c = 1", "b.d = 2", "[[e]]", "[[e]]"}, `{ "a": { "b": { "c": 1 "d": 2 } } "e": [ { } { } ] }`},
		} {
			good(t, strings.Join(l.lines, "\n"+c+"\n"), l.want)
			good(t, c+"\n"+lines(l.lines...)+"\n"+c, l.want)
			good(t, c+"\n"+c+"\n"+strings.Join(l.lines, "\n"+c+"\n"+c+"\n")+"\n"+c+"\n"+c, l.want)
		}
	}
	for _, c := range []string{"\t#", "\r", "\x00", "/", "\t", ";", "-", "!", ",", "}"} { // no comments
		last(t, "", api.ErrSyntax, c[:1], "  "+c[:1])
		last(t, `{ "a": 1`, api.ErrSyntax, "a = 1\n"+c[:1])
	}
}

// TestNoLines holds texts of comments alone: the first Map, too, is reported at
// their end, and so ahead of no error.
func TestNoLines(t *testing.T) {
	good(t, "", "{ }")
	for _, c := range comments {
		good(t, c, "{ }")
		good(t, c+"\n"+c, "{ }")
		good(t, "\n"+c+"\n\n", "{ }")
		for _, text := range []string{"\xff", "=", "[]", "a\t", "a.=", "]"} {
			e := api.ErrSyntax
			if text == "\xff" {
				e = api.ErrUTF
			}
			last(t, "", e, c+"\n"+text)
		}
		open(t, "", c+"\na", c+"\n[a", c+"\n\"")
	}
}

// TestFirst holds that bytes that form no characters, and the length of a line,
// come ahead of all else in it, also in a comment, and where the text ends.
func TestFirst(t *testing.T) {
	for _, ahead := range []texts.Pair{{Text: "", Want: ""}, {Text: "#\n", Want: ""}, {Text: "a = 1\n", Want: `{ "a": 1`}, {Text: "[b]\n[[c.d]]\n", Want: `{ "b": { } "c": { "d": [ {`}} {
		syntax.NoLines(t, ahead, "", "a", "e = ", "= ", "\"", "# é", "[b]", "[[c.d]]", "[c.d]", "a = 1 2", "e = [", "e = \"\\x", "e = 1e1000 ", "é", "    ", strings.Repeat("n", 17), strings.Repeat("#", 156))
	}
	syntax.Check(t, "a = x\n\xff", `{ "a":`, api.ErrSyntax, 4) // an earlier line
	syntax.Check(t, "[a]\n[a]\n"+strings.Repeat("#", 161), `{ "a": { }`, api.ErrTwice, 6)
}

// filled returns a line of n bytes, in which more fills what is between its
// beginning and its end.
func filled(n int, begin, more, end string) string {
	return begin + strings.Repeat(more, (n-len(begin)-len(end))/len(more)) + end
}

// TestLength holds lines of 160 bytes, which is all that they may have, and of
// 161.
func TestLength(t *testing.T) {
	quoted := `"` + strings.Repeat(`\"`, 48) + `"`
	for _, l := range []struct{ begin, more, end, want string }{
		{"", " ", "a=1", `{ "a": 1 }`}, {"a", " ", "=1", `{ "a": 1 }`}, {"a=", " ", "1", `{ "a": 1 }`}, {"a=1", " ", "", `{ "a": 1 }`}, {"", " ", "[a]", `{ "a": { } }`}, {"[[a]]", " ", "", `{ "a": [ { } ] }`},
		{"a = [", " ", "]", `{ "a": [ ] }`}, {"a = {", " ", `k=` + quoted + "}", `{ "a": { "k": ` + quoted + " } }"}, {"a = [1", ",1", " ]", `{ "a": [ 1` + strings.Repeat(" 1", 76) + " ] }"}, {"[" + quoted, " ", "", ""}, {"", "#", "", "{ }"}, {"#", "é", "#", "{ }"},
	} {
		line := filled(160, l.begin, l.more, l.end)
		if l.want == "" { // blanks behind a key
			open(t, "", line[:len(l.begin)])
			syntax.Check(t, line, "", api.ErrSyntax, len(l.begin))
			continue
		}
		good(t, line, l.want)
		good(t, "\n#\n"+line, l.want)
		last(t, "", api.ErrToken, line+" ", "\n#\n"+line+" ")
		last(t, `{ "z": 1`, api.ErrToken, "z = 1\n"+line+" ")
	}
}

// TestBlanks holds that blanks may stand at some places of a line, and TestNoBlanks
// that they may not at others.
func TestBlanks(t *testing.T) {
	for text, want := range map[string]string{
		" [a.b] ": `{ "a": { "b": { } } }`, " [[a.b]] ": `{ "a": { "b": [ { } ] } }`, ` [["a"."b"]] `: `{ "a": { "b": [ { } ] } }`,
		" a = 1 ": `{ "a": 1 }`, ` a."b" = "x" `: `{ "a": { "b": "x" } }`, ` "a" = true `: `{ "a": true }`,
		` a = [ 1 , [ ] , { } , { b = 2 , "c" = [ -3 , false ] } , "x" ] `: `{ "a": [ 1 [ ] { } { "b": 2 "c": [ -3 false ] } "x" ] }`, " a = { } ": `{ "a": { } }`,
	} {
		for _, blank := range []string{"", " ", "  ", "    "} {
			good(t, strings.ReplaceAll(text, " ", blank), want)
			good(t, "z = 0\n"+strings.ReplaceAll(text, " ", blank), `{ "z": 0 `+strings.TrimPrefix(want, "{ "))
		}
	}
}

func TestNoBlanks(t *testing.T) {
	marked(t, api.ErrSyntax, map[string]string{
		"[^ ": "", "[^ a]": "", "[[^ a]]": "", "[^ [a]]": "", "[a^ ]": "", "[a^ .b]": "", "[a.^ b]": "", "[[a^ ]]": "", "[[a]^ ]": `{ "a": [ {`, "[a^ b]": "", `["a"^ ]`: "", `[^ "a"]`: "", `["a"^ ."b"]`: "", `["a".^ "b"]`: "", "[a] ^]": `{ "a": {`, "[a] ^b": `{ "a": {`,
		"a ^.b = 1": "", "a.^ b = 1": "", `"a" ^."b" = 1`: "", `"a".^ "b" = 1`: "", "a ^b = 1": "", "a.b ^.c": "",
		"a = tr^ ue": `{ "a":`, "a = t^ rue": `{ "a":`, "a = f^ alse": `{ "a":`, "a = -^ 5": `{ "a":`, "a = 1.^ 5": `{ "a":`, "a = 1e^ 5": `{ "a":`, "a = 1 ^.5": `{ "a": 1`, "a = 1 ^e5": `{ "a": 1`, "a = 1 ^2": `{ "a": 1`, `a = "a" ^"b"`: `{ "a": "a"`,
		"a = [1 ^2]": `{ "a": [ 1`, "a = [[] ^[]]": `{ "a": [ [ ]`, "a = {b = 1 ^c=2}": `{ "a": { "b": 1`, "a = {b ^c=2}": `{ "a": { "b":`, "a = {b ^.c=2}": `{ "a": { "b":`,
	})
}

// TestBlankBytes holds that bytes 32 alone are blanks.
func TestBlankBytes(t *testing.T) {
	for _, b := range []string{"\t", "\r", "\v", "\f", "\x00", "\u00a0", "\u2028"} {
		for text, want := range map[string]string{
			"": "", "  ": "", "a": "", "a ": "", "a.b": "", "a =": `{ "a":`, "a = ": `{ "a":`, "a = 1": `{ "a": 1`, "a = 1 ": `{ "a": 1`, "a = [": `{ "a": [`, "a = [1": `{ "a": [ 1`, "a = [1,": `{ "a": [ 1`, "a = {": `{ "a": {`, "a = {b": `{ "a": { "b":`, "a = {b=": `{ "a": { "b":`, "a = {b=1": `{ "a": { "b": 1`, "a = {}": `{ "a": { }`,
			"[": "", "[a": "", "[a]": `{ "a": {`, "[a] ": `{ "a": {`, "[[": "", "[[a": "", "[[a]": `{ "a": [ {`, "[[a]]": `{ "a": [ {`, "a = 1\n": `{ "a": 1`, `"a"`: "", `a = "x"`: `{ "a": "x"`,
		} {
			syntax.Check(t, text+b, want, api.ErrSyntax, len(text))
			syntax.Check(t, text+b+" ", want, api.ErrSyntax, len(text))
		}
	}
}
