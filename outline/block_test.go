package outline_test

import (
	"strconv"
	"strings"
	"testing"

	"hexapla/api"
)

func TestBlocks(t *testing.T) {
	for _, l := range []struct {
		want  string
		lines []string
	}{
		{"[ null ]", []string{"-"}},
		{"[ null ]", []string{"- "}},
		{"[ null ]", []string{"-     "}},
		{"[ 1 ]", []string{"- 1"}},
		{"[ 1 ]", []string{"-   1   "}},
		{"[ null 2 ]", []string{"-", "- 2"}},
		{"[ null null null ]", []string{"-", "- ", "-"}},
		{`{ "a": null }`, []string{"a:"}},
		{`{ "a": null }`, []string{"a   :   "}},
		{`{ "a": 1 }`, []string{"a: 1"}},
		{`{ "a": 1 }`, []string{"a  :  1  "}},
		{`{ "a": null "b": 2 "c": null }`, []string{"a:", "b: 2", "c:"}},
		{`{ "a b": true }`, []string{`"a b": true`}},
		{`{ "": "" }`, []string{`"" : ""`}},
		{"[ [ 1 ] ]", []string{"-", "  - 1"}},
		{"[ [ null ] null ]", []string{"-", "  -", "-"}},
		{"[ [ [ 1 2 ] 3 ] 4 ]", []string{"-", "  -", "    - 1", "    - 2", "  - 3", "- 4"}},
		{"[ [ [ [ null ] ] ] null ]", []string{"-", "  -", "    -", "      -", "-"}},
		{"[ [ [ [ null ] ] null ] ]", []string{"-", "  -", "    -", "      -", "  -"}},
		{"[ [ [ [ null ] null ] ] ]", []string{"-", "  -", "    -", "      -", "    -"}},
		{"[ { \"a\": null \"b\": [ null ] } 1 ]", []string{"-", "  a:", "  b:", "    -", "- 1"}},
		{`{ "a": { "a": { "a": 1 "b": 2 } "b": 3 } "b": 4 }`, []string{"a:", "  a:", "    a: 1", "    b: 2", "  b: 3", "b: 4"}},
		{`{ "a": [ 1 ] "b": [ [ ] { } ] }`, []string{"a:", "  - 1", "b:", "  - []", "  - {}"}},
		{`[ { "a": 1 } { "a": 1 } ]`, []string{"-", "  a: 1", "-", "  a: 1"}},
		{`[ [ 1 ] [ 2 ] [ 3 ] ]`, []string{"-", "  - 1", "-", "  - 2", "-", "  - 3"}},
		{`{ "-": [ -5 ] }`, []string{`"-":`, "  - -5"}},
	} {
		good(t, lines(l.lines...), l.want)
		good(t, "\n#\n"+strings.Join(l.lines, "\n         # -\n\n"), l.want)
	}
}

// nested returns a text with n blocks within one another, a line each.
func nested(n int, line string) string {
	var l []string
	for i := range n {
		l = append(l, strings.Repeat("  ", i)+line)
	}
	return lines(l...)
}

// TestBlocksEnd holds where the events of a block, and of a missing value, are
// reported: ahead of an error in the line that ends them.
func TestBlocksEnd(t *testing.T) {
	for _, ahead := range []struct{ text, told, ended string }{
		{nested(3, "-"), "[ [ [", "null ] ]"}, {"- 1\n- 2", "[ 1 2", ""}, {nested(2, "a:") + "\n    - 1", `{ "a": { "a": [ 1`, "] }"}, {"a:", `{ "a":`, "null"}, {"-\n  a: 1", `[ { "a": 1`, "}"},
	} {
		want := strings.TrimSpace(ahead.told + " " + ahead.ended)
		wrong := map[byte]string{'-': "b", 'a': "-"}[ahead.text[0]]
		for _, line := range []string{wrong, wrong + ": 1", "\t", "+", ":", "&a", "[1]", "1"} {
			syntax.Check(t, ahead.text+"\n"+line, want, api.ErrSyntax, len(ahead.text)+1)
			syntax.Check(t, ahead.text+"\n\n  # x\n"+line, want, api.ErrSyntax, len(ahead.text)+8)
		}
		syntax.Check(t, ahead.text+"\n  \xff", ahead.told, api.ErrUTF, len(ahead.text)+3)
	}
}

// TestIndent holds each case of ErrIndent, and what the line ends ahead of it.
func TestIndent(t *testing.T) {
	for _, l := range []struct {
		told   string // by the lines ahead of the last one
		ended  string // by the last one
		indent int
		lines  []string
	}{
		{"", "", 1, nil}, {"", "", 2, nil}, {"", "", 3, nil}, {"", "", 2, []string{"", "#", "  #"}}, // the first line
		{"[", "", 1, []string{"-"}}, {"[", "", 3, []string{"-"}}, {"[", "", 4, []string{"-"}}, {"[", "", 9, []string{"- "}}, // not by exactly two
		{`{ "a":`, "", 1, []string{"a:"}}, {`{ "a":`, "", 3, []string{"a :"}}, {`{ "a":`, "", 4, []string{"a: "}}, {`{ "a":`, "", 1, []string{"a: &b"}},
		{"[ [", "", 3, []string{"-", "  -"}}, {"[ [", "", 5, []string{"-", "  -"}}, {"[ [", "", 6, []string{"-", "  -"}}, {"[ [ 1 null", "", 5, []string{"-", "  - 1", "  -", "  -"}},
		{"[ 1", "", 1, []string{"- 1"}}, {"[ 1", "", 2, []string{"- 1"}}, {"[ 1", "", 3, []string{"- 1"}}, {"[ 1", "", 4, []string{"- 1"}}, // the previous line has a value
		{`{ "a": 1`, "", 2, []string{"a: 1"}}, {`{ "a": [ ]`, "", 2, []string{"a: []"}}, {"[ null", "", 2, []string{"- null"}}, {"[ 1 1", "", 2, []string{"- &a 1", "- *a"}}, {"[ [ 1", "", 4, []string{"-", "  - 1"}}, {"[ [ 1", "", 4, []string{"-", "  - 1", "      # x", ""}},
		{"[ [", "null ]", 1, []string{"-", "  -"}}, {"[ [ 1", "]", 1, []string{"-", "  - 1"}}, {`{ "a": { "b":`, "null }", 1, []string{"a:", "  b:"}}, {`{ "a": { "b": 1`, "}", 1, []string{"a:", "  b: 1"}}, // no open block has it
		{"[ [ [", "null ]", 3, []string{"-", "  -", "    -"}}, {"[ [ [", "null ] ]", 1, []string{"-", "  -", "    -"}}, {"[ [ [ 1", "]", 3, []string{"-", "  -", "    - 1"}}, {`[ { "a": [ null`, "null ] }", 1, []string{"-", "  a:", "    -", "    -"}},
		{"[ [ [ [ [ 1", "] ] ]", 3, []string{"-", "  -", "    -", "      -", "        - 1"}}, {"[ [ [ [ [ 1", "]", 7, []string{"-", "  -", "    -", "      -", "        - 1"}}, {"[ [ [ [ [ 1", "] ] ] ]", 1, []string{"-", "  -", "    -", "      -", "        - 1"}},
	} {
		ahead := lines(append(l.lines, strings.Repeat(" ", l.indent))...)
		want := strings.TrimSpace(l.told + " " + l.ended)
		for _, rest := range []string{"- 1", "a: 1", "-", "x", "1", "\t", "\x00", "-x", "*a", `"\x`, "[", "&a"} {
			syntax.Check(t, ahead+rest, want, api.ErrIndent, len(ahead))
			syntax.Check(t, ahead+rest+"\n- 1\n", want, api.ErrIndent, len(ahead))
		}
		syntax.Check(t, ahead+"- 1\xff", l.told, api.ErrUTF, len(ahead)+3) // ahead of it
		syntax.Check(t, ahead+strings.Repeat("-", 180), l.told, api.ErrToken, len(ahead)-l.indent+160)
	}
}

// TestEntries holds lines that are not what their block is to have.
func TestEntries(t *testing.T) {
	last(t, "[ 1", api.ErrSyntax, "- 1\nb", "- 1\n1", "- 1\n\"", "- 1\n[", "- 1\n:", "- 1\n*", "- 1\n&", "- 1\n\x00", "- 1\n-1", "- 1\n--", "- 1\n-:", "- 1\n-\t", "- 1\n-[", "- 1\n-#")
	last(t, "[ null", api.ErrSyntax, "-\nb", "-\n-1")
	last(t, `{ "a": 1`, api.ErrSyntax, "a: 1\n-", "a: 1\n1", "a: 1\n[", "a: 1\n:", "a: 1\n*", "a: 1\n&", "a: 1\n\x00", "a: 1\n.", "a: 1\n'")
	last(t, `{ "a": null`, api.ErrSyntax, "a:\n-", "a:\n5")
	last(t, `{ "a": 1 "b":`, api.ErrSyntax, "a: 1\nb x", "a: 1\nb\t", "a: 1\nb  \"", "a: 1\nb,", "a: 1\n\"b\"x", "a: 1\n\"b\"\"", "a: 1\n\"b\" -", "a: 1\nb:1", "a: 1\nb::", "a: 1\nb:\"", "a: 1\nb  :[", "a: 1\nb:#", "a: 1\nb #")
	open(t, `{ "a": 1 "b":`, "a: 1\nb", "a: 1\nb  ", "a: 1\n\"b\"", "a: 1\n\"b\"  ")
	open(t, `{ "a": 1`, `a: 1`+"\n"+`"`, `a: 1`+"\n"+`"b`, `a: 1`+"\n"+`"b: 2`, `a: 1`+"\n"+`"\u00`, `a: 1`+"\n"+`"b\`)
	last(t, `{ "a": 1`, api.ErrEscape, "a: 1\n\"\\x", "a: 1\n\"b\\u00g")
	last(t, `{ "a": 1`, api.ErrSyntax, "a: 1\n\"b\x00", "a: 1\n\"\t")
}

// TestFirstOfBlock holds the line that decides what a block within another one
// is.
func TestFirstOfBlock(t *testing.T) {
	for _, ahead := range []struct{ text, told string }{{"-\n  ", "["}, {"a:\n  ", `{ "a":`}, {"- &k\n  # x\n\n  ", "["}, {"-\n- 1\n-   \n  ", "[ null 1"}, {"a:\n  b:\n    ", `{ "a": { "b":`}} {
		for _, text := range []string{"-1", "--", "-\t", "-:", "-\"", "-a", "-[", "-\x00", "-5: 1"} { // told at the -
			syntax.Check(t, ahead.text+text, ahead.told, api.ErrSyntax, len(ahead.text))
		}
		for _, begin := range []string{"1", "0: 1", "[", "{", "*k", "&l", ":", ",", ".a", "'", "\t", "\x00", "é", "+", "]"} {
			syntax.Check(t, ahead.text+begin, ahead.told, api.ErrSyntax, len(ahead.text))
			syntax.Check(t, ahead.text+begin+" x", ahead.told, api.ErrSyntax, len(ahead.text))
		}
		list, fields := ahead.told+" [", ahead.told+" {"
		last(t, list, api.ErrSyntax, ahead.text+"- x", ahead.text+"-  :", ahead.text+"- \t")
		last(t, fields+` "k":`, api.ErrSyntax, ahead.text+"k x", ahead.text+"k\t", ahead.text+`"k" 1`, ahead.text+"k:1", ahead.text+`"k":1`, ahead.text+"k -", ahead.text+"k  #")
		open(t, fields+` "k":`, ahead.text+"k", ahead.text+"k  ", ahead.text+`"k"`, ahead.text+`"k" `)
		open(t, fields, ahead.text+`"`, ahead.text+`"k`, ahead.text+`"k: 1`)
		last(t, fields, api.ErrEscape, ahead.text+`"\x`)
		last(t, fields, api.ErrToken, ahead.text+strings.Repeat("n", 17), ahead.text+`"`+strings.Repeat("n", 49))
		for _, word := range []string{"null", "true", "false", "n", "_", strings.Repeat("n", 16)} {
			last(t, fields+" "+strconv.Quote(word)+": 1", api.ErrSyntax, ahead.text+word+": 1 x")
			last(t, fields+" "+strconv.Quote(word)+":", api.ErrSyntax, ahead.text+word+" x")
		}
	}
}

// TestDepth holds blocks and flow values in blocks, in one another.
func TestDepth(t *testing.T) {
	good(t, nested(6, "-"), strings.Repeat("[ ", 6)+"null"+strings.Repeat(" ]", 6))
	good(t, nested(6, "a:"), strings.Repeat(`{ "a": `, 6)+"null"+strings.Repeat(" }", 6))
	six := strings.Repeat("[ ", 5) + "["
	syntax.Check(t, nested(7, "-"), six, api.ErrDepth, len(nested(7, "-"))-1)
	last(t, six, api.ErrDepth, nested(6, "-")+"\n"+strings.Repeat(" ", 12)+"a", nested(6, "-")+"\n"+strings.Repeat(" ", 12)+`"`)
	syntax.Check(t, nested(7, "-")+" x", six, api.ErrDepth, len(nested(7, "-"))-1)
	last(t, six, api.ErrSyntax, nested(6, "-")+"\n"+strings.Repeat(" ", 12)+"1") // no block, nothing to open
	syntax.Check(t, nested(6, "-")+"\n"+strings.Repeat(" ", 12)+"-1", six, api.ErrSyntax, len(nested(6, "-"))+13)
	last(t, six, api.ErrDepth, nested(6, "-")+" [", nested(6, "-")+" {", nested(5, "-")+" [[", nested(1, "-")+" [[[[[[", "[[[[[[[", "[[[[[[{")
	good(t, nested(6, "-")+"\n- []\n-\n  - [[[[]]]]", strings.Repeat("[ ", 6)+"null"+strings.Repeat(" ]", 5)+" [ ] [ [ [ [ [ ] ] ] ] ] ]")
	good(t, nested(5, "a:")+" {}", strings.Repeat(`{ "a": `, 5)+"{ }"+strings.Repeat(" }", 5))
}

// TestFields holds keys that stand twice, and too many, each told at the last
// byte of its key.
func TestFields(t *testing.T) {
	last(t, `{ "a": 1`, api.ErrTwice, "a: 1\na", "a: 1\n\"a\"", "\"a\": 1\na", "a: 1\n\"\\u0061\"", "\"\\u0061\": 1\n\"a\"")
	syntax.Check(t, "abc: 1\nabc x", `{ "abc": 1`, api.ErrTwice, 9)
	syntax.Check(t, "abc: 1\n\"abc\":x", `{ "abc": 1`, api.ErrTwice, 11)
	last(t, `{ "a": null "b": 2`, api.ErrTwice, "a:\nb: 2\na", "a:\nb: 2\nb")
	good(t, "a: 1\nA: 2\naa: 3\n\"a \": 4\n\"\": 5", `{ "a": 1 "A": 2 "aa": 3 "a ": 4 "": 5 }`)
	good(t, "a:\n  a:\n    a: 1", `{ "a": { "a": { "a": 1 } } }`)
	last(t, `{ "a": { "b": 1 }`, api.ErrTwice, "a:\n  b: 1\na")
	var text, want []string
	for i := range 10 {
		text, want = append(text, "k"+strconv.Itoa(i)+": 1"), append(want, strconv.Quote("k"+strconv.Itoa(i))+": 1")
	}
	good(t, lines(text...), "{ "+strings.Join(want, " ")+" }")
	last(t, "{ "+strings.Join(want, " "), api.ErrFields, lines(text...)+"\na", lines(text...)+"\n\"a\"")
	last(t, "{ "+strings.Join(want, " "), api.ErrTwice, lines(text...)+"\nk9", lines(text...)+"\n\"k0\"")
	last(t, "{ "+strings.Join(want, " "), api.ErrToken, lines(text...)+"\n"+strings.Repeat("n", 17))
}

// TestKeys holds keys, of a first line and of others.
func TestKeys(t *testing.T) {
	for _, key := range []string{"a", "Z", "_", "a1", "a-.", "_-_", "null", "true", "false", "nullx", "a.b", strings.Repeat("n", 16)} {
		want := strconv.Quote(key) + ": "
		good(t, key+":", "{ "+want+"null }")
		good(t, key+"  : 1", "{ "+want+"1 }")
		good(t, "x: 0\n"+key+": 1", `{ "x": 0 `+want+"1 }")
		good(t, "x:\n  "+key+": 1", `{ "x": { `+want+"1 } }")
	}
	for _, key := range []string{"", " ", "a", "é€", `\u00e9`, `\"\\\n`, ": 1", "- 1", "# x", strings.Repeat("x", 48), strings.Repeat("é", 24)} {
		contents, _ := strconv.Unquote(`"` + key + `"`)
		want := strconv.Quote(contents) + ": "
		good(t, `"`+key+`":`, "{ "+want+"null }")
		good(t, `"`+key+`"  : 1`, "{ "+want+"1 }")
		good(t, "x: 0\n\""+key+`": 1`, `{ "x": 0 `+want+"1 }")
		good(t, "x:\n  \""+key+`": 1`, `{ "x": { `+want+"1 } }")
	}
	long := strings.Repeat("n", 16)
	for _, more := range []string{"n", "1", "-", ".", "_"} {
		last(t, `{ "x": 1`, api.ErrToken, "x: 1\n"+long+more)
		last(t, "", api.ErrToken, long+more)
		syntax.Check(t, long+more+": 1", "", api.ErrToken, 16)
		syntax.Check(t, "x: 1\n"+long+more+": 1", `{ "x": 1`, api.ErrToken, 21)
	}
	last(t, `{ "x": 1`, api.ErrToken, "x: 1\n\""+strings.Repeat("n", 49), "x: 1\n\""+strings.Repeat("n", 47)+`\u00e9`)
}
