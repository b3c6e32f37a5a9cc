package outline_test

import (
	"strconv"
	"strings"
	"testing"

	"hexapla/api"
)

// TestValueAlone holds texts whose value is not a block.
func TestValueAlone(t *testing.T) {
	for text, want := range map[string]string{
		"null": "null", "true": "true", "false": "false", "0": "0", "-5": "-5", "1e3": "1e3", `"x"`: `"x"`, `"a: 1"`: `"a: 1"`, `"- 1"`: `"- 1"`, "[]": "[ ]", "{}": "{ }", `{"a":1}`: `{ "a": 1 }`, `["a", -1]`: `[ "a" -1 ]`,
	} {
		for _, end := range []string{"", " ", "     "} {
			good(t, text+end, want)
			good(t, "\n  # x\n"+text+end, want)
			good(t, "&a "+text+end, want)
			good(t, "&"+strings.Repeat("n", 16)+"   "+text+end, want)
		}
		for _, more := range []string{"#", ",", "]", "\"", "[", "1", "\t", "\x00", "*a", "&a"} {
			syntax.Check(t, text+" "+more, want, api.ErrSyntax, len(text)+1)
			if more != "1" { // with which a number goes on, and a word
				syntax.Check(t, text+more, want, api.ErrSyntax, len(text))
			}
		}
	}
	open(t, "", "&a", "&a  ", "&", "*", `"`, `"x`, `"\`) // an anchor alone, or a value that is not whole
	open(t, "[", "[", "[ ")
	open(t, "{", "{", `{"`)
	syntax.Check(t, "&a\n  - 1", "", api.ErrSyntax, 2)
	syntax.Check(t, "&a \n- 1", "", api.ErrSyntax, 3)
	last(t, "", api.ErrSyntax, ",", ":", "]", "}", "+", "'", "\x00", ".", "*1", "& ", "* ", "&1", "&-", "&a\t", "&a[")
	syntax.Check(t, "é", "", api.ErrSyntax, 0)
}

// TestWords holds words at the beginning of a text: those that are neither keys
// nor values are told behind their last byte.
func TestWords(t *testing.T) {
	for _, word := range []string{"x", "abc", "n", "nul", "nullx", "null.", "null-", "null_1", "tru", "truE", "truetrue", "fals", "falsey", "False", "_", "a.b-c", strings.Repeat("n", 16)} {
		open(t, "", word)
		for _, more := range []string{" ", "  ", " x", "   #", "\t", ",", "]", "\"", "\"x\"", " null", "é", " - :", " 1 : 2", "\x00", "[:"} {
			syntax.Check(t, word+more, "", api.ErrSyntax, len(word))
			syntax.Check(t, "#\n"+word+more+"\n- 1", "", api.ErrSyntax, 2+len(word))
		}
	}
	for word, want := range map[string]string{"null": "null", "true": "true", "false": "false"} {
		for _, more := range []string{" x", ",", "   #", "]", "\"", " null", "é", "\t", "[:"} {
			at := len(word+more) - len(strings.TrimLeft(more, " "))
			syntax.Check(t, word+more, want, api.ErrSyntax, at)
		}
	}
	for _, word := range []string{strings.Repeat("n", 17), "null" + strings.Repeat(".", 13), strings.Repeat("n", 17) + ":", strings.Repeat("n", 99) + " x"} {
		syntax.Check(t, word, "", api.ErrToken, 16)
	}
	// Behind an anchor, a word is not at the beginning.
	syntax.Check(t, "&a abc", "", api.ErrSyntax, 3)
	syntax.Check(t, "&a nux", "", api.ErrSyntax, 5)
	syntax.Check(t, "&a nullx", "null", api.ErrSyntax, 7)
}

// TestFirstLine holds the line that decides between item, field and part.
func TestFirstLine(t *testing.T) {
	// An item has nothing, or a blank, behind its -.
	good(t, "-", "[ null ]")
	good(t, "- 5", "[ 5 ]")
	good(t, "-5", "-5")
	good(t, "- -5", "[ -5 ]")
	last(t, "", api.ErrSyntax, "--", "-x", "-\t", "-:", "-[", "-\"", "-\x00")
	last(t, "[", api.ErrSyntax, "- - ", "- x", "- a", "- :", "-  \t")
	last(t, "-5", api.ErrSyntax, "-5:", "-5 :", "-5-")
	// A field has a key, blanks and a colon, whatever follows.
	for _, key := range []string{"a", "null", "true", "false", `"a"`, `"\u0061"`, `"- "`, strings.Repeat("n", 16)} {
		contents, isQuoted := key, key[0] == '"'
		if isQuoted {
			contents, _ = strconv.Unquote(key)
		}
		want := "{ " + strconv.Quote(contents) + ":"
		for _, colon := range []string{":", " :", "    :"} {
			good(t, key+colon, want+" null }")
			good(t, key+colon+" 1", want+" 1 }")
			good(t, key+colon+" &k", want+" null }")
			last(t, want, api.ErrSyntax, key+colon+"x", key+colon+"1", key+colon+":", key+colon+"\t", key+colon+"\"", key+colon+"#", key+colon+" x", key+colon+"  #", key+colon+"&", key+colon+"\x00")
		}
	}
	// All else is a part.
	last(t, `"a"`, api.ErrSyntax, `"a"x`, `"a" x`, `"a"   #`, `"a",`, `"a""`, `"a" -`, `"a" 1`)
	syntax.Check(t, `"a" x: 1`, `"a"`, api.ErrSyntax, 4)
	syntax.Check(t, `"a"x :`, `"a"`, api.ErrSyntax, 3)
	last(t, "", api.ErrToken, `"`+strings.Repeat("x", 49))
	syntax.Check(t, `"`+strings.Repeat("x", 49)+`": 1`, "", api.ErrToken, 49)
	last(t, "", api.ErrEscape, `"\x`)
	syntax.Check(t, `"a\x": 1`, "", api.ErrEscape, 3)
	syntax.Check(t, "\"a\tb\": 1", "", api.ErrSyntax, 2)
	last(t, "[ ]", api.ErrSyntax, "[]:", "[] :")
	last(t, "{ }", api.ErrSyntax, "{}:", "{} :")
	last(t, "1", api.ErrSyntax, "1:", "1 :", "&a 1:")
	last(t, "", api.ErrSyntax, "&a:", "&a x")
	last(t, "", api.ErrAnchor, "*a")
	syntax.Check(t, "*a: 1", "", api.ErrAnchor, 1)
}
