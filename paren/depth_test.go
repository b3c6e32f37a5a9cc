package paren_test

import (
	"strings"
	"testing"

	"hexapla/api"
)

// nested returns what opens a list, a map or an element for each letter of kinds,
// in one another, and the events.
func nested(kinds string) (string, string) {
	var text, want strings.Builder
	for i := range len(kinds) {
		switch last := i == len(kinds)-1; {
		case kinds[i] == 'l':
			text.WriteString("(")
			want.WriteString(" [")
		case kinds[i] == 'e':
			text.WriteString(`#<"e"`)
			want.WriteString(" <e")
		case last:
			text.WriteString("#(")
			want.WriteString(" {")
		default:
			text.WriteString(`#("k"`)
			want.WriteString(` { "k":`)
		}
	}
	return text.String(), strings.TrimSpace(want.String())
}

// kindsOf visits all rows of n kinds that may be in one another: in elements,
// there are elements alone.
func kindsOf(n int, row string, visit func(string)) {
	if len(row) == n {
		visit(row)
		return
	}
	for _, kind := range []string{"l", "m", "e"} {
		if !strings.HasSuffix(row, "e") || kind == "e" {
			kindsOf(n, row+kind, visit)
		}
	}
}

// closes returns the events with which what is nested ends.
func closes(kinds string) string {
	var want strings.Builder
	for i := len(kinds) - 1; i >= 0; i-- {
		want.WriteString(map[byte]string{'l': " ]", 'm': " }", 'e': " >"}[kinds[i]])
	}
	return want.String()
}

func TestDepth(t *testing.T) {
	for n := 1; n <= 6; n++ {
		kindsOf(n, "", func(kinds string) {
			text, want := nested(kinds)
			syntax.CheckOK(t, text+strings.Repeat(")", n), want+closes(kinds))
			syntax.CheckOpen(t, text+strings.Repeat(")", n-1), want+closes(kinds)[:2*(n-1)])
		})
	}
}

// TestTooDeep opens one more in six. The inner value of them may have parts.
func TestTooDeep(t *testing.T) {
	kindsOf(7, "", func(kinds string) {
		text, want := nested(kinds[:6])
		switch kinds[5] {
		case 'm':
			text, want = text+`"k"`, want+` "k":`
		case 'e':
			text, want = text+`@"k""v"`, want+` @k="v"`
		}
		last := map[byte]string{'l': "(", 'm': "#(", 'e': "#<"}[kinds[6]]
		syntax.CheckLast(t, text+last, want, api.ErrDepth)
		syntax.CheckLast(t, text+" ;\n"+last, want, api.ErrDepth)
		if kinds[6] != 'l' {
			syntax.CheckOpen(t, text+"#", want) // which may yet become something else
		}
		if kinds[5] == 'l' {
			syntax.CheckLast(t, text+"#n1"+last, want+" null 1", api.ErrDepth)
		}
	})
}

// TestDepthAgain holds that what was closed does not count.
func TestDepthAgain(t *testing.T) {
	six := `((((()))))#("a"#("a"#("a"#("a"#()))))#<"e"#<"e"#<"e"#<"e"#<"e")))))`
	r := syntax.Read(t, "("+strings.Repeat(six, 20)+")")
	if r.Err != api.OK || len(r.Events) != 2+20*(10+14+10) {
		t.Error(r.Err, len(r.Events))
	}
	syntax.CheckOK(t, "(((((()()#()1)))())((((#())))))", "[ [ [ [ [ [ ] [ ] { } 1 ] ] ] [ ] ] [ [ [ [ { } ] ] ] ] ]")
	syntax.CheckLast(t, "(((((((", "[ [ [ [ [ [", api.ErrDepth)
	syntax.CheckLast(t, "(((((()()1((", "[ [ [ [ [ [ ] [ ] 1 [", api.ErrDepth)
	syntax.CheckLast(t, `(((((#("a"1"b"(`, `[ [ [ [ [ { "a": 1 "b":`, api.ErrDepth)
	syntax.CheckLast(t, `(((((#("a"1"b"#<`, `[ [ [ [ [ { "a": 1 "b":`, api.ErrDepth)
	syntax.CheckLast(t, `(((((#<"e""x"#<`, `[ [ [ [ [ <e "x"`, api.ErrDepth)
	syntax.CheckLast(t, `((((#<"e"#<"f")#<"g""x"#<`, `[ [ [ [ <e <f > <g "x"`, api.ErrDepth)
	syntax.CheckOK(t, `((((#<"e"#<"f")#<"g")"x")))))`, `[ [ [ [ <e <f > <g > "x" > ] ] ] ]`)
}
