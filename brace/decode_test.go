package brace_test

import (
	"strconv"
	"strings"
	"testing"

	"hexapla/api"
	"hexapla/checks"
)

// scalars are values that are no lists or maps, and their events.
var scalars = map[string]string{
	"null": "null", "true": "true", "false": "false", "0": "0", "-12.50e+3": "-125e2", `""`: `""`, `"a b"`: `"a b"`,
}

// values are values of all kinds, and their events.
func values() map[string]string {
	all := map[string]string{"[]": "[ ]", "{}": "{ }", `[1,{"k":null}]`: `[ 1 { "k": null } ]`, `{"k":[]}`: `{ "k": [ ] }`}
	for text, want := range scalars {
		all[text] = want
	}
	return all
}

func TestValues(t *testing.T) {
	for text, want := range values() {
		syntax.CheckOK(t, text, want)
		syntax.CheckOK(t, "["+text+"]", "[ "+want+" ]")
		syntax.CheckOK(t, "["+text+","+text+"]", "[ "+want+" "+want+" ]")
		syntax.CheckOK(t, `{"a":`+text+"}", `{ "a": `+want+" }")
		syntax.CheckOK(t, `{"a":`+text+`,"b":`+text+"}", `{ "a": `+want+` "b": `+want+" }")
	}
}

// TestDocument holds the examples of the document.
func TestDocument(t *testing.T) {
	syntax.CheckOK(t, `[1, "a"]`, `[ 1 "a" ]`)
	syntax.CheckOK(t, `{"a":[1,"x"]}`, `{ "a": [ 1 "x" ] }`)
	syntax.Check(t, `{"a":1,"a"`, `{ "a": 1`, api.ErrTwice, 9)
	syntax.Check(t, "12x", "12", api.ErrSyntax, 2)
	syntax.Check(t, "tru", "", api.ErrSyntax, 3)
	syntax.Check(t, "", "", api.ErrSyntax, 0)
	syntax.Check(t, "1e1000 ", "", api.ErrNumber, 6)
	syntax.Check(t, "[1,", "[ 1", api.ErrSyntax, 3)
}

// blanks are the four, each alone and in rows.
var blanks = []string{" ", "\t", "\n", "\r", "   ", " \t\n\r", "\r\n\r\n"}

func TestBlanks(t *testing.T) {
	for _, blank := range blanks {
		for text, want := range values() {
			for _, around := range []string{blank + text, text + blank, blank + text + blank} {
				syntax.CheckOK(t, around, want)
			}
		}
		for _, tokens := range [][]string{
			{"[", "]"}, {"{", "}"}, {"[", "1", ",", "true", ",", `"a"`, ",", "[", "]", ",", "null", "]"},
			{"{", `"a"`, ":", "-1", ",", `"b"`, ":", "false", ",", `"c"`, ":", "{", "}", "}"},
		} {
			r := syntax.Read(t, strings.Join(tokens, ""))
			if r.Err != api.OK {
				t.Error(tokens, r.Err)
			}
			syntax.CheckOK(t, blank+strings.Join(tokens, blank)+blank, checks.Written(r.Events))
		}
	}
}

// TestNoBlanks asks all bytes but the blanks where only those may stand.
func TestNoBlanks(t *testing.T) {
	for b := range 256 {
		text := string([]byte{byte(b)})
		if strings.Contains(" \t\n\r", text) {
			syntax.CheckOpen(t, text, "")
			syntax.CheckOK(t, text+"{"+text+"}"+text, "{ }")
			continue
		}
		e := api.ErrSyntax
		if 0x80 <= b && b < 0xC2 || b > 0xF4 { // the bytes with which no character begins
			e = api.ErrUTF
		}
		for _, before := range []string{"null", "[]", `"a"`, `{"a":1} `, "1 "} {
			r := syntax.Read(t, before)
			syntax.CheckLast(t, before+text, checks.Written(r.Events), e)
		}
		if b != ':' {
			syntax.CheckLast(t, `{"a"`+text, `{ "a":`, e)
		}
	}
}

func TestBlanksAlone(t *testing.T) {
	syntax.CheckOpen(t, "", "")
	for _, blank := range blanks {
		syntax.CheckOpen(t, blank, "")
		syntax.CheckOpen(t, strings.Repeat(blank, 40), "")
		syntax.Check(t, blank+"]", "", api.ErrSyntax, len(blank))
	}
	for _, no := range []string{"\v", "\f", "\x00", "\x1f", "\u00a0", "\u0085", "\u2028", "\ufeff", ";", "#", "/"} {
		syntax.Check(t, no+"1", "", api.ErrSyntax, 0)
		syntax.Check(t, "[ "+no+"1]", "[", api.ErrSyntax, 2)
	}
}

// TestWords asks each byte behind each beginning of each word.
func TestWords(t *testing.T) {
	for _, word := range []string{"null", "true", "false"} {
		for n := 1; n < len(word); n++ {
			syntax.CheckOpen(t, word[:n], "")
			syntax.CheckOpen(t, "["+word[:n], "[")
			syntax.Check(t, "["+word[:n]+"]", "[", api.ErrSyntax, n+1)
			for b := range 0x80 {
				if byte(b) != word[n] {
					syntax.Check(t, word[:n]+string(rune(b)), "", api.ErrSyntax, n)
				}
			}
			syntax.Check(t, word[:n]+"\xff", "", api.ErrUTF, n)
			syntax.Check(t, word[:n]+"\xc3", "", api.ErrSyntax, n)
		}
		syntax.CheckLast(t, word+"x", word, api.ErrSyntax)
		syntax.CheckLast(t, word+word[:1], word, api.ErrSyntax)
		syntax.Check(t, strings.ToUpper(word), "", api.ErrSyntax, 0)
		syntax.Check(t, strings.ToUpper(word[:1])+word[1:], "", api.ErrSyntax, 0)
		syntax.Check(t, word[:1]+strings.ToUpper(word[1:]), "", api.ErrSyntax, 1)
		syntax.CheckLast(t, "["+word+" "+word[:1], "[ "+word, api.ErrSyntax)
	}
	syntax.Check(t, "nil", "", api.ErrSyntax, 1)
	syntax.Check(t, "truefalse", "true", api.ErrSyntax, 4)
	syntax.Check(t, "{null", "{", api.ErrSyntax, 1)
	syntax.Check(t, "{true:1}", "{", api.ErrSyntax, 1)
}

// TestFirstByte asks each byte ahead of a value.
func TestFirstByte(t *testing.T) {
	for b := range 0x80 {
		text := string(rune(b))
		switch {
		case strings.Contains(" \t\n\r-0123456789ntf\"[{", text):
			for _, before := range []string{"", "[", "[1,", `{"a":`, " "} {
				if r := syntax.Read(t, before+text); r.Err != api.OK && r.At != len(before)+1 {
					t.Errorf("%q: %v at %d", before+text, r.Err, r.At)
				}
			}
		default:
			syntax.CheckLast(t, text, "", api.ErrSyntax)
			syntax.CheckLast(t, "[1,"+text, "[ 1", api.ErrSyntax)
			syntax.CheckLast(t, `{"a":`+text, `{ "a":`, api.ErrSyntax)
			if text != "]" {
				syntax.CheckLast(t, "["+text, "[", api.ErrSyntax)
			}
		}
	}
}

func TestLists(t *testing.T) {
	syntax.CheckOK(t, "[]", "[ ]")
	syntax.CheckOK(t, "[ ]", "[ ]")
	syntax.CheckOK(t, "[[],[[]],[]]", "[ [ ] [ [ ] ] [ ] ]")
	syntax.CheckOK(t, "[1,2,3,4,5,6,7,8,9,10,11,12]", "[ 1 2 3 4 5 6 7 8 9 1e1 11 12 ]")
	syntax.CheckOK(t, `["a","a","","a"]`, `[ "a" "a" "" "a" ]`)
	syntax.CheckOK(t, "["+strings.Repeat("null,", 500)+"null]", "["+strings.Repeat(" null", 501)+" ]")
	syntax.CheckOK(t, "[{},{},[{}]]", "[ { } { } [ { } ] ]")
	syntax.CheckLast(t, "[1,]", "[ 1", api.ErrSyntax)
	syntax.CheckLast(t, "[1, ]", "[ 1", api.ErrSyntax)
	syntax.CheckLast(t, "[true,,", "[ true", api.ErrSyntax)
	syntax.CheckLast(t, "[,", "[", api.ErrSyntax)
	syntax.CheckLast(t, "[ ,", "[", api.ErrSyntax)
	syntax.CheckLast(t, ",", "", api.ErrSyntax)
	syntax.CheckLast(t, "]", "", api.ErrSyntax)
	syntax.CheckLast(t, "[[],]", "[ [ ]", api.ErrSyntax)
	syntax.CheckLast(t, "[1 2", "[ 1", api.ErrSyntax)
	syntax.CheckLast(t, "[[][", "[ [ ]", api.ErrSyntax)
	syntax.CheckLast(t, `["a""`, `[ "a"`, api.ErrSyntax)
	syntax.CheckLast(t, `["a":`, `[ "a"`, api.ErrSyntax)
	syntax.CheckLast(t, "[:", "[", api.ErrSyntax)
	for _, text := range []string{"[", "[ ", "[1,", "[1, ", "[[", "[1 "} {
		syntax.CheckOpen(t, text, strings.TrimSpace(strings.NewReplacer("[", "[ ", ",", "").Replace(text)))
	}
	syntax.CheckOpen(t, "[[]", "[ [ ]")
	syntax.CheckOpen(t, "[[],", "[ [ ]")
	syntax.CheckOpen(t, "[1", "[ 1") // the end ends the number
	syntax.CheckOpen(t, `["a`, "[")
}

func TestMaps(t *testing.T) {
	syntax.CheckOK(t, "{}", "{ }")
	syntax.CheckOK(t, "{\n}", "{ }")
	syntax.CheckOK(t, `{"":""}`, `{ "": "" }`)
	syntax.CheckOK(t, `{"a":{"a":{"a":1},"b":{}},"b":2}`, `{ "a": { "a": { "a": 1 } "b": { } } "b": 2 }`)
	syntax.CheckOK(t, `{"b":1,"a":2,"B":3,"A":4}`, `{ "b": 1 "a": 2 "B": 3 "A": 4 }`) // in their order
	syntax.CheckOK(t, `{"\u0061\n":1}`, `{ "a\n": 1 }`)
	syntax.CheckOK(t, `{"é":"é"}`, `{ "é": "é" }`)
	syntax.CheckLast(t, `{"a":1,}`, `{ "a": 1`, api.ErrSyntax)
	syntax.CheckLast(t, `{"a":1, }`, `{ "a": 1`, api.ErrSyntax)
	syntax.CheckLast(t, `{"a":{},,`, `{ "a": { }`, api.ErrSyntax)
	syntax.CheckLast(t, "{,", "{", api.ErrSyntax)
	syntax.CheckLast(t, "{:", "{", api.ErrSyntax)
	syntax.CheckLast(t, "{1", "{", api.ErrSyntax)
	syntax.CheckLast(t, "{[", "{", api.ErrSyntax)
	syntax.CheckLast(t, "{{", "{", api.ErrSyntax)
	syntax.CheckLast(t, "}", "", api.ErrSyntax)
	syntax.CheckLast(t, ":", "", api.ErrSyntax)
	syntax.CheckLast(t, `{"a"}`, `{ "a":`, api.ErrSyntax)
	syntax.CheckLast(t, `{"a",`, `{ "a":`, api.ErrSyntax)
	syntax.CheckLast(t, `{"a" 1`, `{ "a":`, api.ErrSyntax)
	syntax.CheckLast(t, `{"a""`, `{ "a":`, api.ErrSyntax)
	syntax.CheckLast(t, `{"a":}`, `{ "a":`, api.ErrSyntax)
	syntax.CheckLast(t, `{"a":,`, `{ "a":`, api.ErrSyntax)
	syntax.CheckLast(t, `{"a"::`, `{ "a":`, api.ErrSyntax)
	syntax.CheckLast(t, `{"a":1:`, `{ "a": 1`, api.ErrSyntax)
	syntax.CheckLast(t, `{"a":"b":`, `{ "a": "b"`, api.ErrSyntax)
	syntax.CheckLast(t, `{"a":1 "`, `{ "a": 1`, api.ErrSyntax)
	syntax.CheckLast(t, `{"a":1,2`, `{ "a": 1`, api.ErrSyntax)
	syntax.CheckLast(t, `{"a":1,{`, `{ "a": 1`, api.ErrSyntax)
	for text, want := range map[string]string{
		"{": "{", "{ ": "{", `{"`: "{", `{"a`: "{", `{"a"`: `{ "a":`, `{"a" `: `{ "a":`, `{"a":`: `{ "a":`, `{"a": `: `{ "a":`,
		`{"a":1`: `{ "a": 1`, `{"a":1,`: `{ "a": 1`, `{"a":1,"b`: `{ "a": 1`, `{"a":{}`: `{ "a": { }`, `{"a":"b`: `{ "a":`,
	} {
		syntax.CheckOpen(t, text, want)
	}
}

// TestOtherBracket asks for the closing bracket of the other kind.
func TestOtherBracket(t *testing.T) {
	for text, want := range map[string]string{
		"[}": "[", "{]": "{", "[1}": "[ 1", "[1 }": "[ 1", "[1,}": "[ 1", "[true}": "[ true", "[[]}": "[ [ ]", "[{}}": "[ { }",
		`{"a":1]`: `{ "a": 1`, `{"a":1 ]`: `{ "a": 1`, `{"a":1,]`: `{ "a": 1`, `{"a"]`: `{ "a":`, `{"a":]`: `{ "a":`,
		`{"a":"b"]`: `{ "a": "b"`, `{"a":{}]`: `{ "a": { }`, `{"a":[]]`: `{ "a": [ ]`, `[{"a":[}`: `[ { "a": [`, `[{"a":1]`: `[ { "a": 1`,
		`{"a":[{}}`: `{ "a": [ { }`,
	} {
		syntax.CheckLast(t, text, want, api.ErrSyntax)
	}
}

// TestBehind asks what stands behind the value.
func TestBehind(t *testing.T) {
	for text, want := range values() {
		for _, more := range []string{"]", "}", ",", ":", "x", "null", "true", `"a"`, "[", "{", "[]", "é"} {
			syntax.Check(t, text+more, want, api.ErrSyntax, len(text))
		}
		for _, more := range []string{"1", "-", "0", "]", ",", "n", `"`, "[", "{"} {
			syntax.Check(t, text+" "+more, want, api.ErrSyntax, len(text)+1)
			syntax.Check(t, text+"\r\n\t"+more, want, api.ErrSyntax, len(text)+3)
		}
		syntax.CheckOK(t, text+strings.Repeat(" ", 60), want)
	}
}

// nested returns a text of brackets, of which the i-th opens a map if the i-th
// bit of kinds is set, and its events.
func nested(n, kinds int) (string, string) {
	text, want := "", ""
	for i := range n {
		if kinds>>i&1 == 0 {
			text, want = text+"[", want+" ["
		} else if i < n-1 {
			text, want = text+`{"k":`, want+` { "k":`
		} else {
			text, want = text+"{", want+" {"
		}
	}
	for i := n - 1; i >= 0; i-- {
		text, want = text+string("]}"[kinds>>i&1]), want+" "+string("]}"[kinds>>i&1])
	}
	return text, strings.TrimSpace(want)
}

func TestDepth(t *testing.T) {
	for n := 1; n <= 6; n++ {
		for kinds := range 1 << n {
			text, want := nested(n, kinds)
			syntax.CheckOK(t, text, want)
		}
	}
	for kinds := range 1 << 7 {
		text, want := nested(7, kinds)
		brackets := strings.Count(text, "[") + strings.Count(text, "{")
		at := strings.LastIndexAny(text, "[{")
		if brackets != 7 {
			t.Fatal(text)
		}
		want = want[:strings.LastIndexAny(want, "[{")]
		syntax.Check(t, text, strings.TrimSpace(want), api.ErrDepth, at)
		syntax.Check(t, text[:at+1], strings.TrimSpace(want), api.ErrDepth, at)
	}
}

// TestDepthAgain holds that what was closed does not count.
func TestDepthAgain(t *testing.T) {
	six := "[[[[[]]]]]"
	r := syntax.Read(t, "["+strings.Repeat(six+",", 20)+six+"]")
	if r.Err != api.OK || len(r.Events) != 2+21*10 {
		t.Error(r.Err, len(r.Events))
	}
	syntax.CheckOK(t, "[[[[[[],[],{},1]]],[]],[[[[{}]]]]]", "[ [ [ [ [ [ ] [ ] { } 1 ] ] ] [ ] ] [ [ [ [ { } ] ] ] ] ]")
	syntax.Check(t, "[[[[[[],[],1,[[", "[ [ [ [ [ [ ] [ ] 1 [", api.ErrDepth, 14)
	syntax.Check(t, `[[[[[{"a":1,"b":[`, `[ [ [ [ [ { "a": 1 "b":`, api.ErrDepth, 16)
	syntax.Check(t, `[[[[[{"a":1,"b":{`, `[ [ [ [ [ { "a": 1 "b":`, api.ErrDepth, 16)
}

// fields returns the text of n fields, k0 and so on, and their events.
func fields(n int) (string, string) {
	var texts, wants []string
	for i := range n {
		texts = append(texts, `"k`+strconv.Itoa(i)+`":1`)
		wants = append(wants, `"k`+strconv.Itoa(i)+`": 1`)
	}
	return strings.Join(texts, ","), strings.Join(wants, " ")
}

func TestFields(t *testing.T) {
	for n := 1; n <= 10; n++ {
		text, want := fields(n)
		syntax.CheckOK(t, "{"+text+"}", "{ "+want+" }")
		for i := range n { // each of them again: the first, a middle one, the last
			syntax.CheckLast(t, "{"+text+`,"k`+strconv.Itoa(i)+`"`, "{ "+want, api.ErrTwice)
		}
		syntax.CheckOpen(t, "{"+text+`,"k0`, "{ "+want)
	}
	text, want := fields(10)
	syntax.CheckLast(t, "{"+text+`,"k10"`, "{ "+want, api.ErrFields)
	syntax.CheckLast(t, "{"+text+`,"k"`, "{ "+want, api.ErrFields)
	syntax.CheckLast(t, "{"+text+`,""`, "{ "+want, api.ErrFields)
	syntax.CheckLast(t, "{"+text+",}", "{ "+want, api.ErrSyntax)
	syntax.CheckOpen(t, "{"+text+`,"k10`, "{ "+want)
	syntax.CheckOpen(t, "{"+text+",", "{ "+want)
	eleven, _ := fields(11)
	syntax.Check(t, "{"+eleven+"}", "{ "+want, api.ErrFields, len(text)+6)
}

// TestOwnFields holds that each map has its own fields.
func TestOwnFields(t *testing.T) {
	text, want := fields(10)
	syntax.CheckOK(t, "[{"+text+"},{"+text+"}]", "[ { "+want+" } { "+want+" } ]")
	syntax.CheckOK(t, `{"k0":{`+text+`},"k1":{`+text+"}}", `{ "k0": { `+want+` } "k1": { `+want+" } }")
	syntax.Check(t, `{"a":{"b":1},"a"`, `{ "a": { "b": 1 }`, api.ErrTwice, 15)
	syntax.Check(t, `{"a":{"b":1,"b"`, `{ "a": { "b": 1`, api.ErrTwice, 14)
	syntax.Check(t, `{"a":{"a":1,"b":{"a":2,"b":3}},"b":4,"a"`, `{ "a": { "a": 1 "b": { "a": 2 "b": 3 } } "b": 4`, api.ErrTwice, 39)
}

// TestSameKeys holds which keys are the same: those with the same contents.
func TestSameKeys(t *testing.T) {
	syntax.Check(t, `{"":1,""`, `{ "": 1`, api.ErrTwice, 7)
	syntax.Check(t, `{"a":1,"\u0061"`, `{ "a": 1`, api.ErrTwice, 14)
	syntax.Check(t, `{"\n":1,"\u000A"`, `{ "\n": 1`, api.ErrTwice, 15)
	syntax.Check(t, `{"é":1,"\u00e9"`, `{ "é": 1`, api.ErrTwice, 15)
	syntax.CheckOK(t, `{"a":1,"A":2,"a ":3," a":4,"":5,"aa":6,"\\u0061":7}`, `{ "a": 1 "A": 2 "a ": 3 " a": 4 "": 5 "aa": 6 "\\u0061": 7 }`)
	syntax.CheckOK(t, `{"a":"a","b":"a"}`, `{ "a": "a" "b": "a" }`) // a value is no key
	syntax.CheckOK(t, `{"a":["a","a"]}`, `{ "a": [ "a" "a" ] }`)
}
