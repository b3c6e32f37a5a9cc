package lines_test

import (
	"strings"
	"testing"

	"hexapla/api"
	"hexapla/checks"
	"hexapla/lines"
	"hexapla/texts"
)

// token is what reads one.
type token = func(l *lines.Line) string

// check reads a token behind two bytes of a line, and holds what is read, where
// the line stands then, and the error, with its place.
func check(t *testing.T, read token, text, want string, stands int, e api.Errno) {
	t.Helper()
	got, at := "", -1
	_, gotE, gotAt := decode(&parser{parse: func(l *lines.Line) {
		l.At = 2
		got = read(l)
		at = l.At - 2
	}}, "é"+text)
	if gotE != api.OK {
		at = gotAt - 2
	}
	if got != want || at != stands || gotE != e {
		t.Errorf("%q: %q, at %d, %v", text, got, at, gotE)
	}
}

// nothing returns a token that is read without an answer.
func nothing(read func(l *lines.Line)) token {
	return func(l *lines.Line) string { read(l); return "" }
}

func TestBytes(t *testing.T) {
	blanks := nothing((*lines.Line).Blanks)
	check(t, blanks, "", "", 0, api.OK)
	check(t, blanks, "a", "", 0, api.OK)
	check(t, blanks, "  a ", "", 2, api.OK)
	check(t, blanks, "   ", "", 3, api.OK)
	check(t, blanks, " \t", "", 1, api.OK)
	colon := nothing(func(l *lines.Line) { l.Expect(':') })
	check(t, colon, ":", "", 1, api.OK)
	check(t, colon, "::", "", 1, api.OK)
	check(t, colon, "", "", 0, api.ErrSyntax)
	check(t, colon, "a:", "", 0, api.ErrSyntax)
	meet := nothing(func(l *lines.Line) { l.Meet(':') })
	check(t, meet, ":", "", 0, api.OK)
	check(t, meet, "::", "", 0, api.OK)
	check(t, meet, "", "", 0, api.ErrSyntax)
	check(t, meet, "a:", "", 0, api.ErrSyntax)
	check(t, nothing(func(l *lines.Line) { l.Expect(0) }), "", "", 0, api.ErrSyntax)
	check(t, nothing(func(l *lines.Line) { l.Expect(0) }), "\x00", "", 1, api.OK)
	for text, want := range map[string]string{"": "end", "a": "name", ":": "colon", "_x": "name", "-": "", "1": "", "é": "", "\x00": "nul", " ": ""} {
		check(t, func(l *lines.Line) string {
			out := ""
			for _, is := range []struct {
				what string
				is   bool
			}{{"end", l.Over()}, {"name", l.NameAhead()}, {"colon", l.Is(':')}, {"nul", l.Is(0)}} {
				if is.is {
					out += is.what
				}
			}
			return out
		}, text, want, 0, api.OK)
	}
}

// TestEnds holds the beginning of a line, which may make it a comment, and its
// end.
func TestEnds(t *testing.T) {
	comment := func(l *lines.Line) string {
		if l.Comment() {
			return "comment"
		}
		return ""
	}
	for text, stands := range map[string]int{"": 0, "   ": 3, "#": 0, "# x": 0, "  #x ": 2} {
		check(t, comment, text, "comment", stands, api.OK)
	}
	for text, stands := range map[string]int{"a": 0, "\t": 0, "  a#": 2, " \t#": 1, "\x00": 0} {
		check(t, comment, text, "", stands, api.OK)
	}
	finish := nothing((*lines.Line).Finish)
	for _, text := range []string{"", " ", "    "} {
		check(t, finish, text, "", len(text), api.OK)
		for _, more := range []string{"a", "#", "\t", "\x00", "]"} {
			check(t, finish, text+more, "", len(text), api.ErrSyntax)
			check(t, finish, text+more+" ", "", len(text), api.ErrSyntax)
		}
	}
}

// TestTokens holds tokens, each read but for its last byte, and what is none.
func TestTokens(t *testing.T) {
	null, one := nothing(func(l *lines.Line) { l.Word("null") }), nothing(func(l *lines.Line) { l.Word("n") })
	check(t, null, "null", "", 3, api.OK)
	check(t, null, "nullx", "", 3, api.OK)
	check(t, one, "nx", "", 0, api.OK)
	check(t, one, "x", "", 0, api.ErrSyntax)
	for i, text := range []string{"", "n", "nu", "nul"} {
		check(t, null, text, "", i, api.ErrSyntax)
		check(t, null, text+"x", "", i, api.ErrSyntax)
	}
	name, number, quoted := (*lines.Line).Name, (*lines.Line).Number, (*lines.Line).Quoted
	long := strings.Repeat("n", 16)
	check(t, name, "a", "a", 0, api.OK)
	check(t, name, "a.b-c:", "a.b-c", 4, api.OK)
	check(t, name, long+" ", long, 15, api.OK)
	check(t, name, long+"1 ", "", 16, api.ErrToken)
	for _, text := range []string{"", " ", "1", "\"a", "é"} {
		check(t, name, text, "", 0, api.ErrSyntax)
	}
	bare := (*lines.Line).Bare
	check(t, bare, "a.b", "a", 0, api.OK)
	check(t, bare, "_b-1 ", "_b-1", 3, api.OK)
	check(t, bare, long+".", long, 15, api.OK)
	check(t, bare, long+"1.", "", 16, api.ErrToken)
	for _, text := range []string{"", " ", "1", ".a", "\"a", "é"} {
		check(t, bare, text, "", 0, api.ErrSyntax)
	}
	for _, l := range append(texts.Numbers(), texts.LongNumbers()...) {
		check(t, number, l.Text, l.Want, len(l.Text)-1, api.OK)
		check(t, number, l.Text+",", l.Want, len(l.Text)-1, api.OK)
	}
	for _, text := range texts.OpenNumbers() {
		check(t, number, text, "", len(text), api.ErrSyntax)
		check(t, number, text+"x", "", len(text), api.ErrSyntax)
	}
	for _, text := range texts.TooLongNumbers() {
		check(t, number, text+"0", "", 30, api.ErrToken)
	}
	for _, text := range texts.RefusedNumbers() {
		check(t, number, text, "", len(text), api.ErrNumber)
		check(t, number, text+"x", "", len(text), api.ErrNumber)
	}
	check(t, number, "", "", 0, api.ErrSyntax)
	check(t, number, "x", "", 0, api.ErrSyntax)
	for _, l := range append(texts.Quoted(), texts.LongQuoted()...) {
		check(t, quoted, l.Text, l.Want, len(l.Text)-1, api.OK)
		check(t, quoted, l.Text+"\"", l.Want, len(l.Text)-1, api.OK)
	}
	for _, text := range texts.OpenQuoted() {
		check(t, quoted, text, "", len(text), api.ErrSyntax)
	}
	for _, l := range texts.WrongQuoted() {
		if l.Err != api.ErrUTF && l.Text[len(l.Text)-1] < 0x80 && !strings.HasSuffix(l.Text, "\n") {
			check(t, quoted, l.Text, "", len(l.Text)-1, l.Err)
			check(t, quoted, l.Text+"\"", "", len(l.Text)-1, l.Err)
		}
	}
	check(t, quoted, "", "", 0, api.ErrSyntax)
	check(t, quoted, "a\"", "", 0, api.ErrSyntax)
}

// TestParts holds what stands between brackets: here names.
func TestParts(t *testing.T) {
	parts := func(l *lines.Line) string {
		out := ""
		l.Parts(']', func() {
			out += l.Name() + ";"
			l.At++
		})
		return out
	}
	for text, want := range map[string]string{"]": "", "  ]": "", "a]": "a;", " a ]": "a;", "a,b,c]": "a;b;c;", "a , b  ,c ]": "a;b;c;"} {
		check(t, parts, text, want, len(text)-1, api.OK)
		check(t, parts, text+"]", want, len(text)-1, api.OK)
		for i := range len(text) {
			check(t, parts, text[:i], "", i, api.ErrSyntax)
		}
	}
	for _, text := range []string{",", " ,", "a,,", "a, ,", "a,]", "a, ]", "a b", "a}", "a;", "1", "a,1", "a\t"} {
		check(t, parts, text, "", len(text)-1, api.ErrSyntax)
		check(t, parts, text+"]", "", len(text)-1, api.ErrSyntax)
	}
}

// value reads a value whose fields are of names, each with a colon behind it.
func value(l *lines.Line) {
	read := func() { value(l) }
	l.Value(read, func() {
		l.Last(api.Event{Kind: api.Key, Text: l.Name()})
		l.Expect(':')
		read()
	})
}

// TestValue holds values, the byte at which each of their events is reported, and
// what is none.
func TestValue(t *testing.T) {
	for _, l := range []struct {
		text, want string
		e          api.Errno
		at         int
	}{
		{"true", "true", api.OK, 4}, {"false", "false", api.OK, 5}, {"-1.50", "-15e-1", api.OK, 5}, {`"a\n"`, `"a\n"`, api.OK, 5}, {"[]", "[ ]", api.OK, 2}, {"{  }", "{ }", api.OK, 4},
		{`[ 1 , {a:[true],b:"x"}]`, `[ 1 { "a": [ true ] "b": "x" } ]`, api.OK, 23},
		{"\n", "", api.ErrSyntax, 0}, {"[\n", "[", api.ErrSyntax, 1}, {"x", "", api.ErrSyntax, 0}, {"null", "", api.ErrSyntax, 0}, {"]", "", api.ErrSyntax, 0}, {"tru", "", api.ErrSyntax, 3}, {"fx", "", api.ErrSyntax, 1}, {"-", "", api.ErrSyntax, 1}, {"1e1000]", "", api.ErrNumber, 6}, {`"\x"`, "", api.ErrEscape, 2},
		{"[1", "[ 1", api.ErrSyntax, 2}, {"[1}", "[ 1", api.ErrSyntax, 2}, {"[1,]", "[ 1", api.ErrSyntax, 3}, {"{1", "{", api.ErrSyntax, 1}, {"{a]", `{ "a":`, api.ErrSyntax, 2}, {"{a:1]", `{ "a": 1`, api.ErrSyntax, 4},
		{"[[[[[[[", "[ [ [ [ [ [", api.ErrDepth, 6}, {"[[[[[[{}", "[ [ [ [ [ [", api.ErrDepth, 6}, {"{ab:1,ab:2}", `{ "ab": 1`, api.ErrTwice, 7},
	} {
		got, e, at := decode(&parser{parse: value}, l.text)
		if checks.Written(got) != l.want || e != l.e || at != l.at {
			t.Errorf("%q: %s, %v at %d", l.text, checks.Written(got), e, at)
		}
	}
	got, e, at := decode(&parser{parse: func(l *lines.Line) { value(l); l.Finish() }}, "truex") // words end with their last byte
	if checks.Written(got) != "true" || e != api.ErrSyntax || at != 4 {
		t.Error(got, e, at)
	}
}

// TestFits holds attempts to read, which leave the line where it is.
func TestFits(t *testing.T) {
	fits := func(l *lines.Line) string {
		if l.Fits(func() { l.Name(); l.At++; l.Blanks(); l.Expect(':') }) {
			return "fits"
		}
		return ""
	}
	for text, want := range map[string]string{"a:": "fits", "ab  :x": "fits", "a": "", "": "", "a b:": "", ":": "", strings.Repeat("n", 17) + ":": "", strings.Repeat("n", 16) + ":": "fits"} {
		check(t, fits, text, want, 0, api.OK)
		check(t, func(l *lines.Line) string { return fits(l) + l.Text[2:] }, text, want+text, 0, api.OK)
	}
	defer func() {
		if got := recover(); got != "x" {
			t.Error(got)
		}
	}()
	check(t, nothing(func(l *lines.Line) { l.Fits(func() { panic("x") }) }), "a", "", 0, api.OK)
}
