package outline_test

import (
	"strings"
	"testing"

	"hexapla/api"
	"hexapla/texts"
)

// places are beginnings of lines behind which a part follows, with its events and
// what ends them.
var places = []struct{ text, told, end string }{{"- ", "[", " ]"}, {"a: ", `{ "a":`, " }"}, {"-   ", "[", " ]"}, {"- &b ", "[", " ]"}, {`"" : &b   `, `{ "":`, " }"}, {"&b ", "", ""}}

// follows returns events and others behind them.
func follows(told, more string) string { return strings.TrimSpace(told + " " + more) }

func TestFlowValues(t *testing.T) {
	for _, p := range places {
		for text, want := range map[string]string{
			"null": "null", "true": "true", "false": "false", "10": "1e1", `"a\tb"`: `"a\tb"`, "[]": "[ ]", "[1]": "[ 1 ]", `["a",1,null,[true],{}]`: `[ "a" 1 null [ true ] { } ]`, "{}": "{ }", `{"a":1}`: `{ "a": 1 }`, `{"a":{"a":[]},"b":"a","":false}`: `{ "a": { "a": [ ] } "b": "a" "": false }`,
			"[[[[[]]]]]": "[ [ [ [ [ ] ] ] ] ]", "[-1,-2e1]": "[ -1 -2e1 ]", `[{"k":[{"k":[]}]}]`: `[ { "k": [ { "k": [ ] } ] } ]`,
		} {
			good(t, p.text+text, follows(p.told, want)+p.end)
			good(t, p.text+text+"   ", follows(p.told, want)+p.end)
		}
	}
}

// TestBlanks holds that blanks may stand at some places, and at no others.
func TestBlanks(t *testing.T) {
	text, want := `[ null , [ ] , { } , { "a" : 1 , "b" : [ 1 , 2 ] } , "x" , -5 , *b , true ] `, `[ null [ ] { } { "a": 1 "b": [ 1 2 ] } "x" -5 9 true ]`
	for _, blank := range []string{"", " ", "  "} {
		good(t, "- &b 9\n- "+strings.ReplaceAll(text, " ", blank), "[ 9 "+want+" ]")
	}
	for text, want := range map[string]string{
		"n ull": "", "nul l": "", "t rue": "", "f alse": "", "- 5": "", "1 2": "1", "1 .5": "1", "1. 5": "", "1e 5": "", "1 e5": "1", `"a" "b"`: `"a"`, "[1 2": "[ 1", "[* b": "[", "* b": "", `{"a" 1`: `{ "a":`, "[[] []": "[ [ ]", `{"a":1 "b"`: `{ "a": 1`, `[" \ u"`: "[",
	} {
		e, at := api.ErrSyntax, strings.LastIndexByte(text, ' ')
		if want != "" && want != "[" { // something ends ahead of the blank
			at++
		}
		if strings.Contains(text, `\ `) {
			e = api.ErrEscape
		}
		syntax.Check(t, "- &b 9\n- "+text, follows("[ 9", want), e, 9+at)
	}
}

// TestNoFlowValues holds what is none: the first byte with which no line goes on.
func TestNoFlowValues(t *testing.T) {
	for _, p := range places {
		check := func(want string, e api.Errno, list ...string) {
			t.Helper()
			for _, text := range list {
				last(t, follows(p.told, want), e, p.text+text)
			}
		}
		check("", api.ErrSyntax, "x", "N", "nx", "nulL", "nu ", "n\"", "tr\x00", "trux", "fa,", "f1", "]", "}", ",", ":", "+", ".", "/", "'", "\t", "\x7f", "* ", "*1", "**", "*-", "*\"", "#")
		check("null", api.ErrSyntax, "nullx", "null.", "null1", "null,", "null #", "null  x")
		check("true", api.ErrSyntax, "truex", "true_", "true1", "true:", "true \t")
		check("1", api.ErrSyntax, "1x", "1,", "1]", "1 x", "1\"", "1[", "1-", "1:")
		check("0", api.ErrSyntax, "01", "00", "-01", "0x")
		check("[", api.ErrSyntax, "[,", "[ ,", "[}", "[:", "[x", "[ x", "[nx", "[&", "[*]", "[#", "[\t")
		check("[ 1", api.ErrSyntax, "[1}", "[1 2", "[1:", "[1,]", "[1, ]", "[1,,", "[1 x", "[1,x", "[1,}")
		check("[ null", api.ErrSyntax, "[null}", "[nullx", "[null 1", "[null:")
		check("[ ]", api.ErrSyntax, "[]]", "[],", "[] 1", "[]:", "[][")
		check("{", api.ErrSyntax, "{,", "{ ,", "{]", "{:", "{a", "{ a", "{1", "{n", "{[", "{*", "{&", "{-")
		check(`{ "k":`, api.ErrSyntax, `{"k"}`, `{"k",`, `{"k"=`, `{"k" 1`, `{"k":}`, `{"k": }`, `{"k":,`, `{"k"::`, `{"k":x`, `{"k" "`, `{"k": &`)
		check(`{ "k": 1`, api.ErrSyntax, `{"k":1]`, `{"k":1:`, `{"k":1 "`, `{"k":1,}`, `{"k":1, }`, `{"k":1,,`, `{"k":1,x`, `{"k":1,1`)
		check("{ }", api.ErrSyntax, "{}}", "{},", "{} x")
		check(`{ "k": 1`, api.ErrTwice, `{"k":1,"k"`, `{"k":1, "\u006b"`)
		for text, want := range map[string]string{
			"n": "", "nul": "", "tru": "", "fals": "", "[": "[", "[ ": "[", "[1": "[ 1", "[1 ": "[ 1", "[1,": "[ 1", "[1, ": "[ 1", "{": "{", "{ ": "{", `{"k`: "{", `{"k"`: `{ "k":`, `{"k" `: `{ "k":`, `{"k":`: `{ "k":`, `{"k": `: `{ "k":`, `{"k":1`: `{ "k": 1`, `{"k":1,`: `{ "k": 1`, "[[]": "[ [ ]", "[nul": "[", "*": "", "[*": "[", "[1, {": "[ 1 {",
		} {
			open(t, follows(p.told, want), p.text+text)
		}
	}
}

// TestNumbers holds all kinds of numbers, and what is none.
func TestNumbers(t *testing.T) {
	for _, l := range append(texts.Numbers(), texts.LongNumbers()...) {
		good(t, l.Text, l.Want)
		good(t, "- "+l.Text+" ", "[ "+l.Want+" ]")
		good(t, "a: ["+l.Text+","+l.Text+" ]", `{ "a": [ `+l.Want+" "+l.Want+" ] }")
	}
	for _, ahead := range []texts.Pair{{Text: "- ", Want: "["}, {Text: `a: {"k": `, Want: `{ "a": { "k":`}, {Text: "&a ", Want: ""}, {Text: "[", Want: "["}} {
		syntax.NoNumbers(t, ahead, " ", ",", "]", "x", "\"", ":", "\t", "#", "\x00")
	}
	for _, text := range texts.RefusedNumbers() { // the line's end is the byte behind it
		syntax.Check(t, "- "+text+"\n- 1", "[", api.ErrNumber, 2+len(text))
		syntax.Check(t, text+"\n", "", api.ErrNumber, len(text))
	}
	good(t, "- 1e999", "[ 1e999 ]")
}

// TestStrings holds all kinds of quoted strings, and what is none.
func TestStrings(t *testing.T) {
	for _, l := range append(texts.Quoted(), texts.LongQuoted()...) {
		want := syntax.Read(t, l.Text).Events
		if len(want) != 1 || want[0] != (api.Event{Kind: api.Text, Text: l.Want}) {
			t.Errorf("%s: %v", l.Text, want)
		}
		for _, text := range []string{"- " + l.Text, "[" + l.Text + "]"} {
			r := syntax.Read(t, text)
			if len(r.Events) != 3 || r.Events[1] != want[0] || r.Err != api.OK {
				t.Errorf("%s: %s", text, r.Written())
			}
			syntax.Each(t, text, r)
		}
	}
	for _, ahead := range []texts.Pair{{Text: "- ", Want: "["}, {Text: `a: {"k": `, Want: `{ "a": { "k":`}, {Text: "", Want: ""}, {Text: "[1, {", Want: "[ 1 {"}} {
		syntax.NoStrings(t, ahead)
	}
	open(t, "[", `- "a`, `- "a\`, `- "\u12`) // a newline is not within the string
}
