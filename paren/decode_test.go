package paren_test

import (
	"strconv"
	"strings"
	"testing"

	"hexapla/api"
	"hexapla/checks"
	"hexapla/texts"
)

// values are values of all kinds, and their events.
var values = []texts.Pair{
	{Text: "#n", Want: "null"}, {Text: "#t", Want: "true"}, {Text: "#f", Want: "false"}, {Text: "0", Want: "0"}, {Text: "-12.50e+3", Want: "-125e2"}, {Text: `""`, Want: `""`},
	{Text: `"a b"`, Want: `"a b"`}, {Text: "()", Want: "[ ]"}, {Text: "#()", Want: "{ }"}, {Text: `(1 #("k"#n))`, Want: `[ 1 { "k": null } ]`}, {Text: `#("k"())`, Want: `{ "k": [ ] }`},
	{Text: `#<"e")`, Want: "<e >"}, {Text: `#<"e"@"k""v""x"#<"f"))`, Want: `<e @k="v" "x" <f > >`},
}

func TestValues(t *testing.T) {
	for _, a := range values {
		syntax.CheckOK(t, a.Text, a.Want)
		syntax.CheckOK(t, "("+a.Text+")", "[ "+a.Want+" ]")
		syntax.CheckOK(t, `#("a"`+a.Text+")", `{ "a": `+a.Want+" }")
		syntax.CheckOK(t, `#("a"`+a.Text+`"b"`+a.Text+")", `{ "a": `+a.Want+` "b": `+a.Want+" }")
		for _, b := range values { // with no blank between, whatever they are
			if a.Text != "0" && a.Text != "-12.50e+3" || b.Text != "0" {
				syntax.CheckOK(t, "("+a.Text+b.Text+")", "[ "+a.Want+" "+b.Want+" ]")
			}
			syntax.CheckOK(t, "("+a.Text+" "+b.Text+")", "[ "+a.Want+" "+b.Want+" ]")
			syntax.CheckOK(t, "("+a.Text+";\n"+b.Text+")", "[ "+a.Want+" "+b.Want+" ]")
		}
	}
}

// TestDocument holds the examples of the document.
func TestDocument(t *testing.T) {
	syntax.CheckOK(t, `(1 "a"#t)`, `[ 1 "a" true ]`)
	syntax.CheckOK(t, `#<"e" @"k" "v" "x")`, `<e @k="v" "x" >`)
	syntax.Check(t, `#("a")`, `{ "a":`, api.ErrSyntax, 5)
	syntax.Check(t, "#x", "", api.ErrSyntax, 1)
	syntax.Check(t, `#<"1")`, "", api.ErrName, 4)
	syntax.Check(t, "; no", "", api.ErrSyntax, 4)
	syntax.CheckOK(t, "(1-2)", "[ 1 -2 ]")
	syntax.CheckOK(t, `#("a" (1 "x"))`, `{ "a": [ 1 "x" ] }`)
}

// blanks are the four and comments, each alone and in rows.
var blanks = []string{
	" ", "\t", "\n", "\r", "   ", " \t\n\r", "\r\n\r\n", ";\n", ";;\n", "; x\n", ";é€\U0001f600\r\n", ";)(\n", ";#(#<#n\n", `;"` + "\n", `;"\` + "\n", ";@1\n", ";\x00\x1f\x7f\n", " ;1\n\t;2\n\r",
}

// lastBlanks are those that only the end of a text ends.
var lastBlanks = []string{";", ";;", "; x", ";\r", ";)", `;"`, " ; ;", "\n;é", ";x\n;y"}

func TestBlanks(t *testing.T) {
	for _, l := range values {
		for _, blank := range blanks {
			syntax.CheckOK(t, blank+l.Text, l.Want)
			syntax.CheckOK(t, l.Text+blank, l.Want)
			syntax.CheckOK(t, blank+l.Text+blank, l.Want)
		}
		for _, blank := range lastBlanks {
			syntax.CheckOK(t, l.Text+blank, l.Want)
			syntax.CheckOpen(t, blank+l.Text, "")
			syntax.CheckOpen(t, "("+l.Text+blank, "[ "+l.Want)
		}
	}
}

// TestBlanksWithin puts blanks wherever they may stand within a value.
func TestBlanksWithin(t *testing.T) {
	for _, tokens := range [][]string{
		{"(", ")"}, {"#(", ")"}, {"(", "1", "#t", `"a"`, "(", ")", "#n", "#(", ")", "-2", ")"}, {"#(", `"a"`, "-1", `"b"`, "#f", `"c"`, "#(", ")", ")"},
		{"#<", `"e"`, ")"}, {"#<", `"e"`, "@", `"k"`, `"v"`, "@", `"l"`, `""`, `"x"`, "#<", `"f"`, ")", `"y"`, ")"}, {"(", "#<", `"e"`, ")", "#<", `"e"`, `"x"`, ")", "1", ")"},
	} {
		r := syntax.Read(t, strings.Join(tokens, ""))
		if r.Err != api.OK {
			t.Error(tokens, r.Err)
		}
		for _, blank := range blanks {
			syntax.CheckOK(t, blank+strings.Join(tokens, blank)+blank, checks.Written(r.Events))
		}
		for _, blank := range lastBlanks {
			syntax.CheckOK(t, strings.Join(tokens, "")+blank, checks.Written(r.Events))
			for n := range tokens { // not ended
				r := syntax.Read(t, strings.Join(tokens[:n], ""))
				syntax.CheckOpen(t, strings.Join(tokens[:n], "")+blank, checks.Written(r.Events))
			}
		}
	}
}

func TestBlanksAlone(t *testing.T) {
	syntax.CheckOpen(t, "", "")
	for _, blank := range append(blanks, lastBlanks...) {
		syntax.CheckOpen(t, blank, "")
		syntax.CheckOpen(t, strings.Repeat(blank, 40), "")
	}
	for _, blank := range blanks {
		syntax.CheckLast(t, blank+")", "", api.ErrSyntax)
		syntax.Check(t, blank+"#"+blank, "", api.ErrSyntax, len(blank)+1) // none may stand here
		syntax.Check(t, "("+blank+"#"+blank, "[", api.ErrSyntax, len(blank)+2)
	}
	for _, no := range []string{"\v", "\f", "\x00", "\x1f", "\u00a0", "\u0085", "\u2028", "\ufeff", ",", ":", "/"} {
		syntax.Check(t, no+"1", "", api.ErrSyntax, 0)
		syntax.Check(t, "( "+no+"1)", "[", api.ErrSyntax, 2)
		syntax.Check(t, "#n"+no, "null", api.ErrSyntax, 2)
	}
}

// follows are texts, their events, and the bytes that may follow. Which they may,
// of all bytes from 0 to 127, is the chapter's grammar, place by place.
var follows = []struct{ text, want, may string }{
	{"", "", `;#("-0123456789` + " \t\n\r"}, {"(", "[", `;#()"-0123456789` + " \t\n\r"}, {"#", "", "ntf(<"}, {"(#", "[", "ntf(<"}, {"#(", "{", `;)"` + " \t\n\r"},
	{`#("a"`, `{ "a":`, `;#("-0123456789` + " \t\n\r"}, {`#("a"#n`, `{ "a": null`, `;)"` + " \t\n\r"}, {`#("a"#`, `{ "a":`, "ntf(<"}, {"#<", "", `;"` + " \t\n\r"},
	{`#<"e"`, "<e", `;@"#)` + " \t\n\r"}, {`#<"e"@`, "<e", `;"` + " \t\n\r"}, {`#<"e"@"k"`, "<e", `;"` + " \t\n\r"}, {`#<"e"@"k""v"`, `<e @k="v"`, `;@"#)` + " \t\n\r"},
	{`#<"e""x"`, `<e "x"`, ";#)" + " \t\n\r"}, {`#<"e"#<"f")`, "<e <f >", `;"#)` + " \t\n\r"}, {`#<"e"#`, "<e", "<"}, {`#<"e""x"#`, `<e "x"`, "<"}, {`#<"e"#<"f")#`, "<e <f >", "<"},
	{`#<"e"#<`, "<e", `;"` + " \t\n\r"}, {`#<"e"#<"f"`, "<e <f", `;@"#)` + " \t\n\r"}, {"#n", "null", "; \t\n\r"}, {"()", "[ ]", "; \t\n\r"}, {"#()", "{ }", "; \t\n\r"}, {`#<"e")`, "<e >", "; \t\n\r"},
	{`"a"`, `"a"`, "; \t\n\r"}, {"(#n", "[ null", `;#()"-0123456789` + " \t\n\r"}, {"(()", "[ [ ]", `;#()"-0123456789` + " \t\n\r"}, {`("a"`, `[ "a"`, `;#()"-0123456789` + " \t\n\r"},
	{`(#<"e")`, "[ <e >", `;#()"-0123456789` + " \t\n\r"}, {`#("a"()`, `{ "a": [ ]`, `;)"` + " \t\n\r"}, {`#("a""b"`, `{ "a": "b"`, `;)"` + " \t\n\r"}, {`#("a"#<"e")`, `{ "a": <e >`, `;)"` + " \t\n\r"},
}

// TestFollows asks each byte behind each of them, with blanks between where such
// may follow.
func TestFollows(t *testing.T) {
	for _, l := range follows {
		syntax.Following(t, texts.Pair{Text: l.text, Want: l.want}, l.may)
		if strings.Contains(l.may, ";") {
			for _, blank := range []string{" ", ";\n", ";x\n"} {
				syntax.Following(t, texts.Pair{Text: l.text + blank, Want: l.want}, l.may)
			}
		}
	}
}

func TestLists(t *testing.T) {
	syntax.CheckOK(t, "(()(())())", "[ [ ] [ [ ] ] [ ] ]")
	syntax.CheckOK(t, "(1 2 3 4 5 6 7 8 9 10 11 12)", "[ 1 2 3 4 5 6 7 8 9 1e1 11 12 ]")
	syntax.CheckOK(t, `("a""a""""a")`, `[ "a" "a" "" "a" ]`)
	syntax.CheckOK(t, "("+strings.Repeat("#n", 501)+")", "["+strings.Repeat(" null", 501)+" ]")
	syntax.CheckOK(t, "(#()#()(#()))", "[ { } { } [ { } ] ]")
	syntax.CheckLast(t, ")", "", api.ErrSyntax)
	syntax.CheckLast(t, "())", "[ ]", api.ErrSyntax)
	syntax.CheckLast(t, "(1))", "[ 1 ]", api.ErrSyntax)
	syntax.CheckLast(t, "#())", "{ }", api.ErrSyntax)
	syntax.CheckLast(t, `#<"e"))`, "<e >", api.ErrSyntax)
	syntax.CheckLast(t, "(()))", "[ [ ] ]", api.ErrSyntax)
	syntax.CheckLast(t, "(1,", "[ 1", api.ErrSyntax)
	syntax.CheckLast(t, "(n", "[", api.ErrSyntax)
	syntax.CheckLast(t, `("a"@`, `[ "a"`, api.ErrSyntax)
	for text, want := range map[string]string{"(": "[", "( ": "[", "(1 ": "[ 1", "((": "[ [", "(()": "[ [ ]", `("a`: "[", "(#": "[", "(#n": "[ null"} {
		syntax.CheckOpen(t, text, want)
	}
}

func TestMaps(t *testing.T) {
	syntax.CheckOK(t, `#("""")`, `{ "": "" }`)
	syntax.CheckOK(t, `#("a"#("a"#("a"1)"b"#())"b"2)`, `{ "a": { "a": { "a": 1 } "b": { } } "b": 2 }`)
	syntax.CheckOK(t, `#("b"1"a"2"B"3"A"4)`, `{ "b": 1 "a": 2 "B": 3 "A": 4 }`) // in their order
	syntax.CheckOK(t, `#("\u0061\n"1)`, `{ "a\n": 1 }`)
	syntax.CheckOK(t, `#("1""2""3""4")`, `{ "1": "2" "3": "4" }`)
	syntax.CheckLast(t, `#("a")`, `{ "a":`, api.ErrSyntax) // without a value
	syntax.CheckLast(t, `#("a" )`, `{ "a":`, api.ErrSyntax)
	syntax.CheckLast(t, `#("a"1"b")`, `{ "a": 1 "b":`, api.ErrSyntax)
	syntax.CheckLast(t, `#("a""b""c")`, `{ "a": "b" "c":`, api.ErrSyntax)
	for _, next := range []string{"1", "-", "#", "("} { // a value where a field is due
		syntax.CheckLast(t, "#("+next, "{", api.ErrSyntax)
		syntax.CheckLast(t, `#("a"()`+next, `{ "a": [ ]`, api.ErrSyntax)
		syntax.CheckLast(t, `#("a"1 `+next, `{ "a": 1`, api.ErrSyntax)
		syntax.CheckLast(t, `#("a""b"`+next, `{ "a": "b"`, api.ErrSyntax)
	}
	for text, want := range map[string]string{
		"#(": "{", "#( ": "{", `#("`: "{", `#("a`: "{", `#("a"`: `{ "a":`, `#("a" `: `{ "a":`, `#("a"1`: `{ "a": 1`, `#("a"#`: `{ "a":`, `#("a"1"b`: `{ "a": 1`, `#("a"#()`: `{ "a": { }`, `#("a""b`: `{ "a":`,
	} {
		syntax.CheckOpen(t, text, want)
	}
}

// TestBehind asks what stands behind the value.
func TestBehind(t *testing.T) {
	for _, l := range values {
		for _, more := range []string{")", "(", "#", `"`, "@", "x", "<", "-", "1", "\xc3"} {
			if more != "1" || !strings.HasSuffix(l.Text, "3") { // with which that number goes on
				syntax.CheckLast(t, l.Text+more, l.Want, api.ErrSyntax)
			}
			syntax.CheckLast(t, l.Text+" "+more, l.Want, api.ErrSyntax)
			syntax.CheckLast(t, l.Text+";"+strings.Trim(more, "\xc3")+"\n"+more, l.Want, api.ErrSyntax)
		}
		syntax.CheckOK(t, l.Text+strings.Repeat(" ;\n", 20), l.Want)
	}
}

// fields returns the text of n fields, k0 and so on, and their events.
func fields(n int) (string, string) {
	var list, wants []string
	for i := range n {
		list = append(list, `"k`+strconv.Itoa(i)+`" 1`)
		wants = append(wants, `"k`+strconv.Itoa(i)+`": 1`)
	}
	return strings.Join(list, ""), strings.Join(wants, " ")
}

func TestFields(t *testing.T) {
	for n := 1; n <= 10; n++ {
		text, want := fields(n)
		syntax.CheckOK(t, "#("+text+")", "{ "+want+" }")
		for i := range n { // each of them again: the first, a middle one, the last
			syntax.CheckLast(t, "#("+text+`"k`+strconv.Itoa(i)+`"`, "{ "+want, api.ErrTwice)
		}
		syntax.CheckOpen(t, "#("+text+`"k0`, "{ "+want)
	}
	text, want := fields(10)
	syntax.CheckLast(t, "#("+text+`"k10"`, "{ "+want, api.ErrFields)
	syntax.CheckLast(t, "#("+text+`""`, "{ "+want, api.ErrFields)
	syntax.CheckLast(t, "#("+text+"1"+`"k10"`, "{ "+want[:len(want)-1]+"11", api.ErrFields)
	syntax.CheckOpen(t, "#("+text+`"k10`, "{ "+want)
}

// TestOwnFields holds that each map has its own fields.
func TestOwnFields(t *testing.T) {
	text, want := fields(10)
	syntax.CheckOK(t, "(#("+text+")#("+text+"))", "[ { "+want+" } { "+want+" } ]")
	syntax.CheckOK(t, `#("k0"#(`+text+`)"k1"#(`+text+"))", `{ "k0": { `+want+` } "k1": { `+want+" } }")
	syntax.CheckLast(t, `#("a"#("b"1)"a"`, `{ "a": { "b": 1 }`, api.ErrTwice)
	syntax.CheckLast(t, `#("a"#("b"1"b"`, `{ "a": { "b": 1`, api.ErrTwice)
	syntax.CheckOK(t, `#("a"#<"a"@"a""a")"b"#<"a"@"a""a"))`, `{ "a": <a @a="a" > "b": <a @a="a" > }`)
}

// TestSameKeys holds which keys are the same: those with the same contents.
func TestSameKeys(t *testing.T) {
	syntax.CheckLast(t, `#(""1""`, `{ "": 1`, api.ErrTwice)
	syntax.CheckLast(t, `#("a"1"\u0061"`, `{ "a": 1`, api.ErrTwice)
	syntax.CheckLast(t, `#("\n"1"\u000A"`, `{ "\n": 1`, api.ErrTwice)
	syntax.CheckOK(t, `#("a"1"A"2"a "3" a"4""5"aa"6"\\u0061"7)`, `{ "a": 1 "A": 2 "a ": 3 " a": 4 "": 5 "aa": 6 "\\u0061": 7 }`)
	syntax.CheckOK(t, `#("a""a""b""a")`, `{ "a": "a" "b": "a" }`) // a value is no key
	syntax.CheckOK(t, `#("a"("a""a"))`, `{ "a": [ "a" "a" ] }`)
}
