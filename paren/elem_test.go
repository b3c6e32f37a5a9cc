package paren_test

import (
	"strconv"
	"strings"
	"testing"

	"hexapla/api"
	"hexapla/texts"
)

// fullNames are the contents of quoted strings that are names, as they are
// written, and what they are.
func fullNames() []texts.Pair {
	x := strings.Repeat("x", 48)
	return []texts.Pair{
		{Text: "e", Want: "e"}, {Text: "_", Want: "_"}, {Text: "A1-.", Want: "A1-."}, {Text: x[:16], Want: x[:16]}, {Text: "{u}a", Want: "{u}a"}, {Text: `{http:\/\/u/#é}a`, Want: "{http://u/#é}a"},
		{Text: "{" + x[:45] + "}a", Want: "{" + x[:45] + "}a"}, {Text: "{" + x[:30] + "}" + x[:16], Want: "{" + x[:30] + "}" + x[:16]}, {Text: `\u0065`, Want: "e"}, {Text: `\u007bu\u007Da`, Want: "{u}a"}, {Text: "xmlns", Want: "xmlns"},
	}
}

// noNames are the contents of quoted strings that are no full names.
func noNames() []string {
	x := strings.Repeat("x", 48)
	return []string{
		"", " ", "1", "-", ".a", "a b", " a", "a ", "é", "aé", "a:b", "p:a", x[:17], x, "{}a", "{u}", "{u}1", "{u", "u}a", "{u v}a", "{u}{v}a", "{{u}a", "{u}}a", "{<}a", `{\"}a`, `{\\}a`, `{\u0001}a`, `a\u0000`, `\n`,
		"{u}" + x[:17], "a{u}", "#", ")",
	}
}

func TestNames(t *testing.T) {
	for _, l := range fullNames() {
		q := `"` + l.Text + `"`
		syntax.CheckOK(t, "#<"+q+")", "<"+l.Want+" >")
		syntax.CheckOK(t, "(#<"+q+"#<"+q+")))", "[ <"+l.Want+" <"+l.Want+" > > ]")
		syntax.CheckOK(t, `#<"e"@`+q+`"v")`, "<e @"+l.Want+`="v" >`)
		syntax.CheckOK(t, "#<"+q+"@"+q+`"")`, "<"+l.Want+" @"+l.Want+`="" >`)
		syntax.CheckOpen(t, "#<"+q, "<"+l.Want)
		syntax.CheckOpen(t, `#<"e"@`+q, "<e")
	}
}

func TestNoNames(t *testing.T) {
	for _, name := range noNames() {
		q := `"` + name + `"`
		syntax.CheckLast(t, "#<"+q, "", api.ErrName)
		syntax.CheckLast(t, "(1 #< "+q, "[ 1", api.ErrName)
		syntax.CheckLast(t, `#<"e"#<`+q, "<e", api.ErrName)
		syntax.CheckLast(t, `#<"e"@`+q, "<e", api.ErrName)
		syntax.CheckLast(t, `#<"e"@"k""v" @ `+q, `<e @k="v"`, api.ErrName)
		syntax.Check(t, `#<"e"@`+q+`"v"@`+q+`"v")`, "<e", api.ErrName, 6+len(q)-1) // twice
	}
}

// attrs returns the text of n attributes, k0 and so on, and their events.
func attrs(n int) (string, string) {
	var list, wants []string
	for i := range n {
		list = append(list, `@"k`+strconv.Itoa(i)+`""v"`)
		wants = append(wants, "@k"+strconv.Itoa(i)+`="v"`)
	}
	return strings.Join(list, ""), strings.Join(wants, " ")
}

func TestAttrs(t *testing.T) {
	for n := 1; n <= 10; n++ {
		text, want := attrs(n)
		syntax.CheckOK(t, `#<"e"`+text+")", "<e "+want+" >")
		syntax.CheckOK(t, `#<"e"`+text+`"x")`, "<e "+want+` "x" >`)
		syntax.CheckOK(t, `#<"e"`+text+`#<"e"`+text+")"+`#<"e"`+text+"))", "<e "+want+" <e "+want+" > <e "+want+" > >") // each has its own
		for i := range n {
			syntax.CheckLast(t, `#<"e"`+text+`@"k`+strconv.Itoa(i)+`"`, "<e "+want, api.ErrTwice)
		}
		syntax.CheckOpen(t, `#<"e"`+text+`@"k0`, "<e "+want)
		syntax.CheckOpen(t, `#<"e"`+text+`@`, "<e "+want)
	}
	text, want := attrs(10)
	syntax.CheckLast(t, `#<"e"`+text+`@"k10"`, "<e "+want, api.ErrFields)
	syntax.CheckLast(t, `#<"e"`+text+`@"{u}k0"`, "<e "+want, api.ErrFields)
	syntax.CheckOpen(t, `#<"e"`+text+`@"k10`, "<e "+want)
	eleven, _ := attrs(11)
	syntax.Check(t, `#<"e"`+eleven+")", "<e "+want, api.ErrFields, 5+len(text)+5)
}

// TestSameAttrs holds which attributes are the same: those with one full name.
func TestSameAttrs(t *testing.T) {
	syntax.CheckLast(t, `#<"e"@"a"""@"a"`, `<e @a=""`, api.ErrTwice)
	syntax.CheckLast(t, `#<"e"@"a""1"@"\u0061"`, `<e @a="1"`, api.ErrTwice)
	syntax.CheckLast(t, `#<"e"@"{u}a""1"@"b""2"@"{u}a"`, `<e @{u}a="1" @b="2"`, api.ErrTwice)
	syntax.CheckOK(t, `#<"a"@"a""a"@"{a}a""a"@"A""a"@"{b}a""a")`, `<a @a="a" @{a}a="a" @A="a" @{b}a="a" >`)
	syntax.CheckOK(t, `#<"e"@"b""1"@"a""2")`, `<e @b="1" @a="2" >`) // in their order
}

// TestAttrPlaces asks for attributes where there are none, and for what is no
// attribute.
func TestAttrPlaces(t *testing.T) {
	for text, want := range map[string]string{
		`#<"e""x"`: `<e "x"`, `#<"e"#<"f")`: "<e <f >", `#<"e"@"k""v""x"`: `<e @k="v" "x"`, `#<"e""x"#<"f")`: `<e "x" <f >`, `#<"e"#<"f""x")"y"`: `<e <f "x" > "y"`, // behind the contents
		"": "", "(": "[", "(#n": "[ null", "#(": "{", `#("a"`: `{ "a":`, "#n": "null", `#<"e")`: "<e >", "#<": "", `#<"e"@`: "<e", `#<"e"@"k"`: "<e",
	} {
		syntax.CheckLast(t, text+"@", want, api.ErrSyntax)
		syntax.CheckLast(t, text+" @", want, api.ErrSyntax)
		syntax.CheckLast(t, text+";\n@", want, api.ErrSyntax)
	}
	for _, next := range []string{")", "1", "#", "(", "-", "k", "@"} {
		syntax.CheckLast(t, "#<"+next, "", api.ErrSyntax)
		syntax.CheckLast(t, `#<"e"@`+next, "<e", api.ErrSyntax)
		syntax.CheckLast(t, `#<"e"@"k"`+next, "<e", api.ErrSyntax)
		syntax.CheckLast(t, `#<"e"@"k" `+next, "<e", api.ErrSyntax)
	}
}

func TestContents(t *testing.T) {
	syntax.CheckOK(t, `#<"e")`, "<e >")
	syntax.CheckOK(t, `#<"e""x")`, `<e "x" >`)
	syntax.CheckOK(t, `#<"e"#<"f"))`, "<e <f > >")
	syntax.CheckOK(t, `#<"e"#<"f")#<"f"))`, "<e <f > <f > >")
	syntax.CheckOK(t, `#<"e""x"#<"f")"y"#<"g""z")#<"h")"x")`, `<e "x" <f > "y" <g "z" > <h > "x" >`)
	syntax.CheckOK(t, `#<"e""x"`+strings.Repeat(`#<"f")"x"`, 40)+")", `<e "x"`+strings.Repeat(` <f > "x"`, 40)+" >")
	syntax.CheckOK(t, `(#<"e""x")"y""z"#<"e""x"))`, `[ <e "x" > "y" "z" <e "x" > ]`)
	syntax.CheckOK(t, `#<"e"@"k""v"#<"f""v"))`, `<e @k="v" <f "v" > >`)
	for text, want := range map[string]string{
		"#<": "", "#< ": "", `#<"`: "", `#<"e`: "", `#<"e"`: "<e", `#<"e" `: "<e", `#<"e"@`: "<e", `#<"e"@"k`: "<e", `#<"e"@"k"`: "<e", `#<"e"@"k""`: "<e", `#<"e"@"k"""`: `<e @k=""`, `#<"e""x`: "<e", `#<"e""x"`: `<e "x"`,
		`#<"e"#`: "<e", `#<"e"#<`: "<e", `#<"e"#<"f"`: "<e <f", `#<"e"#<"f")`: "<e <f >",
	} {
		syntax.CheckOpen(t, text, want)
	}
}

// TestNoContents asks for what an element may not contain.
func TestNoContents(t *testing.T) {
	for text, want := range map[string]string{
		`#<"e"`: "<e", `#<"e"@"k""v"`: `<e @k="v"`, `#<"e""x"`: `<e "x"`, `#<"e"#<"f")`: "<e <f >", `(#<"e"#<"f"`: "[ <e <f", `#("a"#<"e"`: `{ "a": <e`,
	} {
		for _, next := range []string{"(", "#(", "#n", "#t", "#f", "#x", "##", "#)", "# ", "1", "-", "0", "n", "e"} {
			syntax.CheckLast(t, text+next, want, api.ErrSyntax)
			syntax.CheckLast(t, text+"\n;\n"+next, want, api.ErrSyntax)
		}
		for _, blank := range append(blanks, "") {
			if !strings.HasSuffix(want, `"x"`) {
				syntax.CheckLast(t, text+blank+`""`, want, api.ErrSyntax) // an empty string, at its last byte
				syntax.CheckLast(t, text+blank+`"y"`+blank+`"`, want+` "y"`, api.ErrSyntax)
				continue
			}
			syntax.CheckLast(t, text+blank+`"`, want, api.ErrSyntax) // two strings, at the first byte of the second
		}
	}
	syntax.CheckOK(t, `(#<"e")""""#<"f"))`, `[ <e > "" "" <f > ]`) // which are no contents
}
