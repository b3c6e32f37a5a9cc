package sections_test

import (
	"strconv"
	"strings"
	"testing"

	"hexapla/api"
	"hexapla/texts"
)

// places are beginnings of texts behind which a value follows, with its events
// and what ends them. None has more than two open maps or lists.
var places = []struct{ text, told, end string }{
	{"a = ", `{ "a":`, " }"}, {"a=", `{ "a":`, " }"}, {"  \"\"   =   ", `{ "":`, " }"}, {"a.b = ", `{ "a": { "b":`, " } }"}, {"#\n[a]\nb = 1\n\"c\" =", `{ "a": { "b": 1 "c":`, " } }"}, {"a.b = 1\na.c = ", `{ "a": { "b": 1 "c":`, " } }"}, {"a.b = 1\nc = ", `{ "a": { "b": 1 } "c":`, " }"},
}

func TestValues(t *testing.T) {
	long := strings.Repeat("n", 16)
	for _, p := range places {
		for text, want := range map[string]string{
			"true": "true", "false": "false", "10": "1e1", `"a\tb"`: `"a\tb"`, "[]": "[ ]", "[1]": "[ 1 ]", `["a",1,[true],{}]`: `[ "a" 1 [ true ] { } ]`, "{}": "{ }", "{a=1}": `{ "a": 1 }`, `{"a"=1}`: `{ "a": 1 }`, `{"a"={a=[]},b="a",""=false}`: `{ "a": { "a": [ ] } "b": "a" "": false }`,
			"[[[[]]]]": "[ [ [ [ ] ] ] ]", "[-1,-2e1]": "[ -1 -2e1 ]", `[{k=[{"k.k"=1}]}]`: `[ { "k": [ { "k.k": 1 } ] } ]`, "{true=true,null=false,_-1=1}": `{ "true": true "null": false "_-1": 1 }`, "{" + long + "=1}": `{ "` + long + `": 1 }`, `{"=]}"=1,"\u0022"=2}`: `{ "=]}": 1 "\"": 2 }`,
		} {
			good(t, p.text+text, follows(p.told, want)+p.end)
			good(t, p.text+text+"   ", follows(p.told, want)+p.end)
		}
	}
}

// TestNoValues holds what is none: the first byte with which no line goes on.
func TestNoValues(t *testing.T) {
	for _, p := range places {
		check := func(want string, e api.Errno, list ...string) {
			t.Helper()
			for _, text := range list {
				last(t, follows(p.told, want), e, p.text+text)
			}
		}
		check("", api.ErrSyntax, "x", "n", "N", "T", "tx", "tr\x00", "trux", "fa,", "f1", "]", "}", ",", ":", "=", "+", ".", "/", "'", "\t", "\x7f", "*", "&", "-x", "--", "#")
		check("true", api.ErrSyntax, "truex", "true_", "true1", "true=", "true \t", "true.", "true #", "true]")
		check("false", api.ErrSyntax, "falsex", "false,", "false f")
		check("1", api.ErrSyntax, "1x", "1,", "1]", "1 x", "1\"", "1[", "1-", "1=", "1 #", "1_")
		check("0", api.ErrSyntax, "01", "00", "-01", "0x")
		check(`"x"`, api.ErrSyntax, `"x"x`, `"x""`, `"x" #`, `"x".`, `"x",`, `"x"=`)
		check("[", api.ErrSyntax, "[,", "[ ,", "[}", "[=", "[x", "[ x", "[n", "[#", "[\t", "[.")
		check("[ 1", api.ErrSyntax, "[1}", "[1 2", "[1=", "[1,]", "[1, ]", "[1,,", "[1 x", "[1,x", "[1,}", "[1;", "[1 #")
		check("[ true", api.ErrSyntax, "[true}", "[truex", "[true 1", "[true.")
		check("[ ]", api.ErrSyntax, "[]]", "[],", "[] 1", "[]=", "[][", "[].")
		check("{", api.ErrSyntax, "{,", "{ ,", "{]", "{=", "{1", "{ 1", "{[", "{{", "{-", "{.", "{#", "{\x00", "{\t")
		check(`{ "k":`, api.ErrSyntax, "{k}", "{k,", "{k:", "{k 1", "{k.", "{k .", "{k\"", "{k]", `{"k"}`, `{"k".`, `{"k"k`, `{"k""`, "{k=}", "{k= }", "{k=,", "{k==", "{k=x", "{k=n", "{k = ]")
		check(`{ "k": 1`, api.ErrSyntax, "{k=1]", "{k=1=", "{k=1 \"", "{k=1 k", "{k=1,}", "{k=1, }", "{k=1,,", "{k=1,1", "{k=1,=", "{k=1;")
		check("{ }", api.ErrSyntax, "{}}", "{},", "{} x", "{}.", "{}[")
		check(`{ "k": 1`, api.ErrTwice, `{k=1,"k"`, `{k=1, "\u006b"`, `{"k"=1 , "k"`)
		for text, want := range map[string]string{
			"": "", " ": "", "t": "", "tru": "", "fals": "", "[": "[", "[ ": "[", "[1": "[ 1", "[1 ": "[ 1", "[1,": "[ 1", "[1, ": "[ 1", "{": "{", "{ ": "{", "{k": `{ "k":`, `{"k`: "{", `{"k"`: `{ "k":`, `{"k" `: `{ "k":`, "{k=": `{ "k":`, "{k= ": `{ "k":`, "{k=1": `{ "k": 1`, "{k=1,": `{ "k": 1`, "{k=1, ": `{ "k": 1`, "[[]": "[ [ ]", "[tru": "[", "[1, {": "[ 1 {", "[\"": "[",
		} {
			open(t, follows(p.told, want), p.text+text)
		}
	}
}

// TestKeysTwice holds a plain key, which ends ahead of the byte behind it but is
// reported at its own last byte.
func TestKeysTwice(t *testing.T) {
	for text, at := range map[string]int{"{k=1,k=2}": 5, "{k=1,k}": 5, "{k=1,k": 5, "{k=1,kk=2,kk=3": 11, `{"k"=1,k=2}`: 7, `{k=1,"k"=2}`: 7, `{k=1, "k"`: 8, `{"kk"=1,kk.x`: 9, "{k={k=1,k=2}}": 8, "{l=[{k=1},{k=1}],l=1}": 17} {
		r := syntax.Read(t, "a = "+text)
		if r.Err != api.ErrTwice || r.At != 4+at {
			t.Errorf("%s: %s", text, r.Written())
		}
		syntax.Each(t, "a = "+text, r)
	}
	good(t, "a = {k={k=1},l={k=1}}", `{ "a": { "k": { "k": 1 } "l": { "k": 1 } } }`)
	good(t, "a = [{k=1},{k=1},{a={a=1}}]", `{ "a": [ { "k": 1 } { "k": 1 } { "a": { "a": 1 } } ] }`)
	syntax.Check(t, "a = {k=1,k1}", `{ "a": { "k": 1 "k1":`, api.ErrSyntax, 11)
}

// TestLongKeys holds names of 16 bytes in a value, and of 17, told at this byte.
func TestLongKeys(t *testing.T) {
	long := strings.Repeat("n", 16)
	for _, name := range []string{long, "_" + strings.Repeat("-", 15), "a" + strings.Repeat("9", 15)} {
		good(t, "a = {"+name+"=1}", `{ "a": { "`+name+`": 1 } }`)
		good(t, `a = {k=1,"`+name+`n"=1}`, `{ "a": { "k": 1 "`+name+`n": 1 } }`) // a quoted string
		for _, more := range []string{"n", "0", "_", "-"} {
			last(t, `{ "a": {`, api.ErrToken, "a = {"+name+more)
			last(t, `{ "a": { "k": 1`, api.ErrToken, "a = {k=1, "+name+more)
			syntax.Check(t, "a = {"+name+more+"=1}", `{ "a": {`, api.ErrToken, 21)
		}
		last(t, `{ "a": { "`+name+`":`, api.ErrSyntax, "a = {"+name+".", "a = {"+name+"}")
	}
}

// TestFieldsOfValue holds maps of ten fields, which is all that they may have.
func TestFieldsOfValue(t *testing.T) {
	ten, told := "", ""
	for i := range 10 {
		ten, told = ten+", k"+strconv.Itoa(i)+"=1", told+` "k`+strconv.Itoa(i)+`": 1`
	}
	ten = ten[2:]
	good(t, "a = {"+ten+"}", `{ "a": {`+told+" } }")
	good(t, "a = [{"+ten+"},{"+ten+"}]", `{ "a": [ {`+told+" } {"+told+" } ] }")
	syntax.Check(t, "a = {"+ten+", kk=1}", `{ "a": {`+told, api.ErrFields, 5+len(ten)+3)
	syntax.Check(t, "a = {"+ten+`, "k"=1}`, `{ "a": {`+told, api.ErrFields, 5+len(ten)+4)
	syntax.Check(t, "a = {"+ten+", k0=1}", `{ "a": {`+told, api.ErrTwice, 5+len(ten)+3) // ahead of it
	syntax.Check(t, "a = {"+ten+", k0", `{ "a": {`+told, api.ErrTwice, 5+len(ten)+3)
	syntax.Check(t, "a = {"+ten+", "+strings.Repeat("n", 17)+"=1}", `{ "a": {`+told, api.ErrToken, 5+len(ten)+18)
}

// TestDepthOfValue holds lists and maps in one another, each told at its bracket.
func TestDepthOfValue(t *testing.T) {
	for i, path := range []string{"a", "a.b", "a.b.c", "a.b.c.d", "a.b.c.d.e", "a.b.c.d.e.f"} {
		left := 5 - i // how many may be open in the value
		told := `{ "` + strings.ReplaceAll(path, ".", `": { "`) + `":`
		ends := strings.Repeat(" }", i+1)
		lists, toldLists := path+" = "+strings.Repeat("[", left), told+strings.Repeat(" [", left)
		good(t, lists+"1"+strings.Repeat("]", left), toldLists+" 1"+strings.Repeat(" ]", left)+ends)
		last(t, toldLists, api.ErrDepth, lists+"[", lists+"{")
		last(t, toldLists, api.ErrSyntax, lists+"x")
		syntax.Check(t, lists+"{}", toldLists, api.ErrDepth, len(lists))
		maps, toldMaps := path+" = "+strings.Repeat("{k=", left), told+strings.Repeat(` { "k":`, left)
		good(t, maps+"1"+strings.Repeat("}", left), toldMaps+" 1"+strings.Repeat(" }", left)+ends)
		last(t, toldMaps, api.ErrDepth, maps+"[", maps+"{")
	}
	last(t, `{ "a": [ [ [ [ [ ] ] ] ] [ [ [ [`, api.ErrDepth, "a = [[[[[]]]], [[[[[", "a = [[[[[]]]], [[[[{") // one that is closed does not count
	last(t, `{ "a": { "b": [ { "k": [ 1 [`, api.ErrDepth, "a.b = [{k=[1,[[", "a.b = [{k=[1,[{")
}

// TestNumbers holds all kinds of numbers, and what is none.
func TestNumbers(t *testing.T) {
	for _, l := range append(texts.Numbers(), texts.LongNumbers()...) {
		good(t, "a = "+l.Text, `{ "a": `+l.Want+" }")
		good(t, "a="+l.Text+" ", `{ "a": `+l.Want+" }")
		good(t, "[a]\nb.c = ["+l.Text+",{k="+l.Text+"},"+l.Text+" ]", `{ "a": { "b": { "c": [ `+l.Want+` { "k": `+l.Want+" } "+l.Want+" ] } } }")
	}
	for _, ahead := range []texts.Pair{{Text: "a = ", Want: `{ "a":`}, {Text: "a.b=", Want: `{ "a": { "b":`}, {Text: "a = [1,", Want: `{ "a": [ 1`}, {Text: "a = {k = ", Want: `{ "a": { "k":`}} {
		syntax.NoNumbers(t, ahead, " ", ",", "]", "}", "x", "\"", "=", "\t", "#", "\x00")
	}
	for _, text := range texts.RefusedNumbers() { // the line's end is the byte behind it
		syntax.Check(t, "a = "+text+"\nb = 1", `{ "a":`, api.ErrNumber, 4+len(text))
		syntax.Check(t, "a = "+text+"\n", `{ "a":`, api.ErrNumber, 4+len(text))
	}
}

// TestStrings holds all kinds of quoted strings, and what is none, also as keys.
func TestStrings(t *testing.T) {
	for _, l := range append(texts.Quoted(), texts.LongQuoted()...) {
		want := strconv.Quote(l.Want)
		for text, events := range map[string]string{
			"a = " + l.Text: `{ "a": ` + want + " }", "a = [" + l.Text + "]": `{ "a": [ ` + want + " ] }", "a = {" + l.Text + "=1}": `{ "a": { ` + want + ": 1 } }",
			l.Text + "=1": "{ " + want + ": 1 }", "a." + l.Text + " = 1": `{ "a": { ` + want + ": 1 } }", l.Text + ".a = 1": "{ " + want + `: { "a": 1 } }`, "[" + l.Text + "]": "{ " + want + ": { } }", "[[a." + l.Text + ".b]]": `{ "a": { ` + want + `: { "b": [ { } ] } } }`,
		} {
			good(t, text, events)
		}
	}
	for _, ahead := range []texts.Pair{{Text: "a = ", Want: `{ "a":`}, {Text: "a = [1, ", Want: `{ "a": [ 1`}, {Text: "a = {", Want: `{ "a": {`}, {Text: "a = {k=", Want: `{ "a": { "k":`}, {Text: "", Want: ""}, {Text: "a.", Want: ""}, {Text: "[", Want: ""}, {Text: "[[a.", Want: ""}} {
		syntax.NoStrings(t, ahead)
	}
	open(t, `{ "a":`, `a = "b`, `a = "b\`, `a = "\u12`) // a newline is not within the string
}
