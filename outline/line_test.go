package outline_test

import (
	"strings"
	"testing"

	"hexapla/api"
	"hexapla/texts"
)

// TestComments holds lines that have no meaning, wherever they stand.
func TestComments(t *testing.T) {
	comments := []string{"", " ", "     ", "#", "# x", "   #", " # - 1", "#\t\"\\x\x00é", strings.Repeat(" ", 160), strings.Repeat("#", 160), strings.Repeat(" ", 159) + "#"}
	for _, c := range comments {
		for _, l := range []struct {
			lines []string
			want  string
		}{
			{[]string{"1"}, "1"},
			{[]string{"- 1", "- 2"}, "[ 1 2 ]"},
			{[]string{"-", "  - 1", "  -", "- 2"}, "[ [ 1 null ] 2 ]"},
			{[]string{"a: &k", "  b:", "    -", "c: *k"}, `{ "a": { "b": [ null ] } "c": { "b": [ null ] } }`},
		} {
			good(t, strings.Join(l.lines, "\n"+c+"\n"), l.want)
			good(t, c+"\n"+lines(l.lines...)+"\n"+c, l.want)
			good(t, c+"\n"+c+"\n"+strings.Join(l.lines, "\n"+c+"\n"+c+"\n")+"\n"+c+"\n"+c, l.want)
		}
	}
	for _, c := range []string{"\t#", "\r", "\x00", "/", "\t"} { // no comments
		last(t, "", api.ErrSyntax, c[:1])
		last(t, "[ 1", api.ErrSyntax, "- 1\n"+c[:1])
	}
}

// TestNoValue holds texts without a value.
func TestNoValue(t *testing.T) {
	for _, text := range []string{"", "\n", "\n\n\n", " ", "   \n  ", "#", "# 1\n", "\n #1\n#\n   "} {
		syntax.CheckOpen(t, text, "")
	}
}

// TestFirst holds that bytes that form no characters, and the length of a line,
// come ahead of all else in it.
func TestFirst(t *testing.T) {
	for _, ahead := range []texts.Pair{{Text: "", Want: ""}, {Text: "1\n", Want: "1"}, {Text: "- 1\n", Want: "[ 1"}, {Text: "a:\n  b:\n", Want: `{ "a": { "b":`}} {
		syntax.NoLines(t, ahead, "", "- ", "x", "\"", "# é", "1 2 ", "é", "    ", "a: &k *k", "\"\\x", "{", "-", ": *abc \"", strings.Repeat("#", 156))
	}
	syntax.Check(t, "- x\n\xff", "[", api.ErrSyntax, 2)
}

// filled returns a line of n bytes, in which more fills what is between its
// beginning and its end.
func filled(n int, begin, more, end string) string {
	return begin + strings.Repeat(more, (n-len(begin)-len(end))/len(more)) + end
}

// TestLength holds lines of 160 bytes, which is all that they may have, and of
// 161.
func TestLength(t *testing.T) {
	quoted := `"` + strings.Repeat(`\"`, 48) + `"`
	for _, l := range []struct{ begin, more, end, want string }{
		{"- ", " ", "1", "[ 1 ]"}, {"- 1", " ", "", "[ 1 ]"}, {"-", " ", "", "[ null ]"}, {"a", " ", ": " + quoted, `{ "a": ` + quoted + " }"}, {"a: ", " ", "1", `{ "a": 1 }`},
		{"[", " ", "]", "[ ]"}, {"{", " ", `"k":1}`, `{ "k": 1 }`}, {"&a ", " ", "1", "1"}, {"[1", ",1", " ]", "[ 1" + strings.Repeat(" 1", 78) + " ]"},
	} {
		good(t, filled(160, l.begin, l.more, l.end), l.want)
		good(t, "\n#\n"+filled(160, l.begin, l.more, l.end), l.want)
		last(t, "", api.ErrToken, filled(160, l.begin, l.more, l.end)+" ", "\n#\n"+filled(160, l.begin, l.more, l.end)+" ")
	}
	for _, more := range []string{" ", "#", " #"} {
		syntax.CheckOpen(t, filled(160, "", more, ""), "")
		last(t, "", api.ErrToken, filled(160, "", more, "")+" ")
	}
}

// TestBehindValue holds what follows the value of a text that is not a block.
func TestBehindValue(t *testing.T) {
	for value, want := range map[string]string{"1": "1", "null": "null", `"x"`: `"x"`, "[1,2]": "[ 1 2 ]", "{}": "{ }", "&a 1": "1"} {
		good(t, value+"\n\n  # x\n#", want)
		for _, rest := range []string{"2", "- 1", "a: 1", ",", "]", "\t", "\r", "\x00", "*a", "&a 1", "null", ":"} {
			for _, ahead := range []string{"\n", "\n  ", "\n ", "\n   ", "\n\n # x\n", "\n\n # x\n  "} {
				syntax.Check(t, value+ahead+rest, want, api.ErrSyntax, len(value+ahead))
			}
		}
	}
}

// TestBlankBytes holds that bytes 32 alone are blanks.
func TestBlankBytes(t *testing.T) {
	for _, b := range []string{"\t", "\r", "\v", "\f", "\x00", "\u00a0"} {
		for text, want := range map[string]string{
			"": "", "1": "1", "-": "", "- 1": "[ 1", "- ": "[", "- 1\n-": "[ 1", "a": "", "a:": `{ "a":`, "a: ": `{ "a":`, "a: 1 ": `{ "a": 1`, "a: &k": `{ "a":`, "[": "[", "[1": "[ 1", "[1,": "[ 1", `{"a"`: `{ "a":`, `{"a":`: `{ "a":`, "- *": "[", "- &": "[", "- 1\n- 2\n": "[ 1 2", `"x"`: `"x"`,
		} {
			syntax.Check(t, text+b, want, api.ErrSyntax, len(text))
			if text != "- 1\n-" && text != "-" { // the blank makes another beginning of those
				syntax.Check(t, text+b+" ", want, api.ErrSyntax, len(text))
			}
		}
	}
}
