package lines_test

import (
	"strings"
	"testing"

	"hexapla/api"
	"hexapla/lines"
	"hexapla/texts"
)

// token is what reads one.
type token = func(l *lines.Line) string

// check reads a token behind two bytes of a line, and holds what is read, where
// the line stands then, and the error, with its place.
func check(t *testing.T, read token, text, want string, stands int, e api.Errno) {
	t.Helper()
	got, at := "", -1
	_, gotE, gotAt := decode(&parser{parse: func(l *lines.Line) {
		l.At = 2
		got = read(l)
		at = l.At - 2
	}}, "é"+text)
	if gotE != api.OK {
		at = gotAt - 2
	}
	if got != want || at != stands || gotE != e {
		t.Errorf("%q: %q, at %d, %v", text, got, at, gotE)
	}
}

// nothing returns a token that is read without an answer.
func nothing(read func(l *lines.Line)) token {
	return func(l *lines.Line) string { read(l); return "" }
}

func TestBytes(t *testing.T) {
	blanks := nothing((*lines.Line).Blanks)
	check(t, blanks, "", "", 0, api.OK)
	check(t, blanks, "a", "", 0, api.OK)
	check(t, blanks, "  a ", "", 2, api.OK)
	check(t, blanks, "   ", "", 3, api.OK)
	check(t, blanks, " \t", "", 1, api.OK)
	colon := nothing(func(l *lines.Line) { l.Expect(':') })
	check(t, colon, ":", "", 1, api.OK)
	check(t, colon, "::", "", 1, api.OK)
	check(t, colon, "", "", 0, api.ErrSyntax)
	check(t, colon, "a:", "", 0, api.ErrSyntax)
	check(t, nothing(func(l *lines.Line) { l.Expect(0) }), "", "", 0, api.ErrSyntax)
	check(t, nothing(func(l *lines.Line) { l.Expect(0) }), "\x00", "", 1, api.OK)
	for text, want := range map[string]string{"": "end", "a": "name", ":": "colon", "_x": "name", "-": "", "1": "", "é": "", "\x00": "nul", " ": ""} {
		check(t, func(l *lines.Line) string {
			out := ""
			for _, is := range []struct {
				what string
				is   bool
			}{{"end", l.Over()}, {"name", l.NameAhead()}, {"colon", l.Is(':')}, {"nul", l.Is(0)}} {
				if is.is {
					out += is.what
				}
			}
			return out
		}, text, want, 0, api.OK)
	}
}

// TestTokens holds tokens, each read but for its last byte, and what is none.
func TestTokens(t *testing.T) {
	null, one := nothing(func(l *lines.Line) { l.Word("null") }), nothing(func(l *lines.Line) { l.Word("n") })
	check(t, null, "null", "", 3, api.OK)
	check(t, null, "nullx", "", 3, api.OK)
	check(t, one, "nx", "", 0, api.OK)
	check(t, one, "x", "", 0, api.ErrSyntax)
	for i, text := range []string{"", "n", "nu", "nul"} {
		check(t, null, text, "", i, api.ErrSyntax)
		check(t, null, text+"x", "", i, api.ErrSyntax)
	}
	name, number, quoted := (*lines.Line).Name, (*lines.Line).Number, (*lines.Line).Quoted
	long := strings.Repeat("n", 16)
	check(t, name, "a", "a", 0, api.OK)
	check(t, name, "a.b-c:", "a.b-c", 4, api.OK)
	check(t, name, long+" ", long, 15, api.OK)
	check(t, name, long+"1 ", "", 16, api.ErrToken)
	for _, text := range []string{"", " ", "1", "\"a", "é"} {
		check(t, name, text, "", 0, api.ErrSyntax)
	}
	for _, l := range append(texts.Numbers(), texts.LongNumbers()...) {
		check(t, number, l.Text, l.Want, len(l.Text)-1, api.OK)
		check(t, number, l.Text+",", l.Want, len(l.Text)-1, api.OK)
	}
	for _, text := range texts.OpenNumbers() {
		check(t, number, text, "", len(text), api.ErrSyntax)
		check(t, number, text+"x", "", len(text), api.ErrSyntax)
	}
	for _, text := range texts.TooLongNumbers() {
		check(t, number, text+"0", "", 30, api.ErrToken)
	}
	for _, text := range texts.RefusedNumbers() {
		check(t, number, text, "", len(text), api.ErrNumber)
		check(t, number, text+"x", "", len(text), api.ErrNumber)
	}
	check(t, number, "", "", 0, api.ErrSyntax)
	check(t, number, "x", "", 0, api.ErrSyntax)
	for _, l := range append(texts.Quoted(), texts.LongQuoted()...) {
		check(t, quoted, l.Text, l.Want, len(l.Text)-1, api.OK)
		check(t, quoted, l.Text+"\"", l.Want, len(l.Text)-1, api.OK)
	}
	for _, text := range texts.OpenQuoted() {
		check(t, quoted, text, "", len(text), api.ErrSyntax)
	}
	for _, l := range texts.WrongQuoted() {
		if l.Err != api.ErrUTF && l.Text[len(l.Text)-1] < 0x80 && !strings.HasSuffix(l.Text, "\n") {
			check(t, quoted, l.Text, "", len(l.Text)-1, l.Err)
			check(t, quoted, l.Text+"\"", "", len(l.Text)-1, l.Err)
		}
	}
	check(t, quoted, "", "", 0, api.ErrSyntax)
	check(t, quoted, "a\"", "", 0, api.ErrSyntax)
}

// TestParts holds what stands between brackets: here names.
func TestParts(t *testing.T) {
	parts := func(l *lines.Line) string {
		out := ""
		l.Parts(']', func() {
			out += l.Name() + ";"
			l.At++
		})
		return out
	}
	for text, want := range map[string]string{"]": "", "  ]": "", "a]": "a;", " a ]": "a;", "a,b,c]": "a;b;c;", "a , b  ,c ]": "a;b;c;"} {
		check(t, parts, text, want, len(text)-1, api.OK)
		check(t, parts, text+"]", want, len(text)-1, api.OK)
		for i := range len(text) {
			check(t, parts, text[:i], "", i, api.ErrSyntax)
		}
	}
	for _, text := range []string{",", " ,", "a,,", "a, ,", "a,]", "a, ]", "a b", "a}", "a;", "1", "a,1", "a\t"} {
		check(t, parts, text, "", len(text)-1, api.ErrSyntax)
		check(t, parts, text+"]", "", len(text)-1, api.ErrSyntax)
	}
}

// TestFits holds attempts to read, which leave the line where it is.
func TestFits(t *testing.T) {
	fits := func(l *lines.Line) string {
		if l.Fits(func() { l.Name(); l.At++; l.Blanks(); l.Expect(':') }) {
			return "fits"
		}
		return ""
	}
	for text, want := range map[string]string{"a:": "fits", "ab  :x": "fits", "a": "", "": "", "a b:": "", ":": "", strings.Repeat("n", 17) + ":": "", strings.Repeat("n", 16) + ":": "fits"} {
		check(t, fits, text, want, 0, api.OK)
		check(t, func(l *lines.Line) string { return fits(l) + l.Text[2:] }, text, want+text, 0, api.OK)
	}
	defer func() {
		if got := recover(); got != "x" {
			t.Error(got)
		}
	}()
	check(t, nothing(func(l *lines.Line) { l.Fits(func() { panic("x") }) }), "a", "", 0, api.OK)
}
