package sections_test

import (
	"strconv"
	"strings"
	"testing"

	"hexapla/api"
)

// TestMoves holds which steps lines keep, and which ones they close.
func TestMoves(t *testing.T) {
	for _, l := range []struct {
		want  string
		lines []string
	}{
		// Headers of maps.
		{`{ "a": { } "b": { } }`, []string{"[a]", "[b]"}},
		{`{ "a": { "b": { } } }`, []string{"[a]", "[a.b]"}},
		{`{ "a": { "b": { } "c": { } } }`, []string{"[a.b]", "[a.c]"}},
		{`{ "a": { "b": { "c": { } } "d": { } } }`, []string{"[a.b.c]", "[a.d]"}},
		{`{ "a": { "b": { "c": { } } } "d": { } }`, []string{"[a.b.c]", "[d]"}},
		{`{ "a": { "b": { "c": { "d": { } } } "e": { "c": { "d": { } } } } }`, []string{"[a.b.c.d]", "[a.e.c.d]"}},
		{`{ "a": { "b": { } } "b": { "a": { } } }`, []string{"[a.b]", "[b.a]"}},
		{`{ "a": { "a": { "a": { } } "b": { } } "b": { } }`, []string{"[a]", "[a.a]", "[a.a.a]", "[a.b]", "[b]"}},
		{`{ "a": { "b": { } "c": { "d": { } } } }`, []string{"[a]", `["a".b]`, `["\u0061"."c"]`, `["a".c."d"]`}},
		{`{ "a": { "b.c": { } "b": { "c": { } } } }`, []string{`[a."b.c"]`, "[a.b.c]"}},
		{`{ "a": { } "A": { } "aa": { } "": { } }`, []string{"[a]", "[A]", "[aa]", `[""]`}},
		{`{ "a": { "b": { } } "ab": { } }`, []string{"[a.b]", "[ab]"}},
		// Headers of rows.
		{`{ "a": [ { } { } { } ] }`, []string{"[[a]]", "[[a]]", `[["a"]]`}},
		{`{ "a": [ { } ] "b": [ { } ] }`, []string{"[[a]]", "[[b]]"}},
		{`{ "a": { "b": [ { } { } ] "c": { } } }`, []string{"[[a.b]]", "[[a.b]]", "[a.c]"}},
		{`{ "a": { "b": [ { } { } ] } }`, []string{"[a]", "[[a.b]]", "[[a.b]]"}},
		{`{ "a": [ { "b": { } } { "b": { } } ] }`, []string{"[[a]]", "[a.b]", "[[a]]", "[a.b]"}},
		{`{ "a": [ { "b": { "c": { } } } { "b": { "c": [ { } ] } } ] }`, []string{"[[a]]", "[a.b.c]", "[[a]]", "[[a.b.c]]"}},
		{`{ "a": [ { "b": [ { } { } ] } { "b": [ { } ] } ] }`, []string{"[[a]]", "[[a.b]]", "[[a.b]]", "[[a]]", "[[a.b]]"}},
		{`{ "a": [ { "b": { "c": [ { } ] "d": { } } } { } ] "b": { } }`, []string{"[[a]]", "[[a.b.c]]", "[a.b.d]", "[[a]]", "[b]"}},
		{`{ "a": [ { "b": [ { } { } ] "c": [ { } ] } ] }`, []string{"[[a]]", "[[a.b]]", "[[a.b]]", "[[a.c]]"}},
		{`{ "a": [ { "a": [ { } { } ] } { } ] }`, []string{"[[a]]", "[[a.a]]", "[[a.a]]", "[[a]]"}},
		{`{ "a": { "b": { } "c": [ { } ] } }`, []string{"[a.b]", "[[a.c]]"}},
		{`{ "a": { "b": { "c": [ { } ] } } }`, []string{"[a.b]", "[[a.b.c]]"}},
		{`{ "a": { "b": { } } "c": [ { } ] }`, []string{"[a.b]", "[[c]]"}},
		{`{ "a.b": [ { } ] "a": { "b": [ { } { } ] } }`, []string{`[["a.b"]]`, "[[a.b]]", `[["a"."b"]]`}},
		// Assignments behind no header.
		{`{ "a": 1 "b": 2 }`, []string{"a = 1", "b = 2"}},
		{`{ "a": { "b": 1 "c": 2 } }`, []string{"a.b = 1", `"a".c = 2`}},
		{`{ "a": { "b": 1 } "c": { "b": 2 } "d": 3 }`, []string{"a.b = 1", "c.b = 2", "d = 3"}},
		{`{ "a": { "b": { "c": 1 "d": 2 } "e": 3 "f": { "b": 4 } } }`, []string{"a.b.c = 1", "a.b.d = 2", "a.e = 3", "a.f.b = 4"}},
		{`{ "a": { "b": { "c": { "d": 1 } } "c": 2 } }`, []string{"a.b.c.d = 1", "a.c = 2"}},
		{`{ "a": { "b": { "c": { "d": 1 } } } "c": 2 }`, []string{"a.b.c.d = 1", "c = 2"}},
		{`{ "a": { "b": { "c": 1 } "bc": 2 } }`, []string{"a.b.c = 1", "a.bc = 2"}},
		// Assignments behind headers.
		{`{ "a": { "b": 1 "c": 2 } }`, []string{"[a]", "b = 1", "c = 2"}},
		{`{ "a": { "a": 1 } }`, []string{"[a]", "a = 1"}},
		{`{ "a": { "a": { "a": 1 "b": 2 } "b": 3 } }`, []string{"[a]", "a.a = 1", "a.b = 2", "b = 3"}},
		{`{ "a": { "b": { "a": { "b": 1 } } } }`, []string{"[a.b]", "a.b = 1"}},
		{`{ "a": { "b": { "c": { "d": 1 "e": 2 } "f": 3 } } }`, []string{"[a.b]", "c.d = 1", "c.e = 2", "f = 3"}},
		{`{ "a": 1 "b": { "a": 1 } "c": { "a": 1 } }`, []string{"a = 1", "[b]", "a = 1", "[c]", "a = 1"}},
		{`{ "a": { "b": 1 } "c": { "a": { "b": 1 } } }`, []string{"a.b = 1", "[c]", "a.b = 1"}},
		{`{ "a": { "b": 1 "c": { "d": 2 } } }`, []string{"a.b = 1", "[a.c]", "d = 2"}}, // the header keeps what an assignment opened
		{`{ "a": { "b": 1 "c": [ { } { "d": 2 } ] } }`, []string{"a.b = 1", "[[a.c]]", "[[a.c]]", "d = 2"}},
		{`{ "a": { "b": { "c": 1 } "d": { } } }`, []string{"[a]", "b.c = 1", "[a.d]"}},
		{`{ "a": { "b": { "c": 1 "d": { "e": 2 } } } }`, []string{"[a]", "b.c = 1", "[a.b.d]", "e = 2"}},
		{`{ "r": [ { "k": 1 "l": 2 } { "k": 3 } ] }`, []string{"[[r]]", "k = 1", "l = 2", "[[r]]", "k = 3"}},
		{`{ "r": [ { "k": { "l": 1 } } { "k": { "l": 1 "m": 2 } "n": 3 } ] }`, []string{"[[r]]", "k.l = 1", "[[r]]", "k.l = 1", "k.m = 2", "n = 3"}},
		{`{ "r": [ { "k": { "l": 1 "m": [ { "l": 2 } { "l": 3 } ] } } ] }`, []string{"[[r]]", "k.l = 1", "[[r.k.m]]", "l = 2", "[[r.k.m]]", "l = 3"}},
		{`{ "r": [ { "r": 1 } { "r": { "r": 1 } } ] }`, []string{"[[r]]", "r = 1", "[[r]]", "r.r = 1"}},
		{`{ "a": { "b": [ { } { "c": 1 } ] "d": { "c": 1 } } }`, []string{"[[a.b]]", "[[a.b]]", "c = 1", "[a.d]", "c = 1"}},
	} {
		good(t, lines(l.lines...), l.want)
		good(t, "\n#\n"+strings.Join(l.lines, "\n  # =\n\n"), l.want)
		good(t, "  "+strings.Join(l.lines, "  \n  ")+"  ", l.want)
	}
}

// TestNotKept holds steps that are closed, and whose keys come again: ahead of
// the error, what the line closes is told.
func TestNotKept(t *testing.T) {
	for _, l := range []struct {
		told   string // by the lines ahead of the last one
		closed string // by the last one
		lines  []string
		last   string // with the byte of the error behind a ^
	}{
		// A header never keeps steps for all keys of its path.
		{`{ "a": {`, "}", []string{"[a]"}, "[a^]"},
		{`{ "a": {`, "}", []string{"[a]"}, `["\u0061"^]`},
		{`{ "a": { "b": {`, "}", []string{"[a.b]"}, "[a.b^]"},
		{`{ "a": { "b": { "c": {`, "} }", []string{"[a.b.c]"}, "[a.b^]"},
		{`{ "a": { "b": { "c": {`, "} } }", []string{"[a.b.c]"}, "[a^]"},
		{`{ "a": { "b": 1`, "}", []string{"a.b = 1"}, "[a^]"},
		{`{ "a": { "b": {`, "} }", []string{"[a]", "[a.b]"}, "[a^]"},
		{`{ "a": { } "b": {`, "}", []string{"[a]", "[b]"}, "[a.c^]"},
		{`{ "a": { "b": { } "c": {`, "}", []string{"[a.b]", "[a.c]"}, "[a.b.d^]"},
		// A row where a map is, and the other way round.
		{`{ "a": {`, "}", []string{"[a]"}, "[[a^]]"},
		{`{ "a": { "b": {`, "} }", []string{"[a.b]"}, "[[a^]]"},
		{`{ "a": { "b": [ {`, "} ] }", []string{"[[a.b]]"}, "[[a^]]"},
		{`{ "a": { "b": 1`, "}", []string{"a.b = 1"}, "[[a^]]"},
		{`{ "a": [ {`, "} ]", []string{"[[a]]"}, "[a^]"},
		{`{ "a": { "b": [ {`, "} ]", []string{"[[a.b]]"}, "[a.b^]"},
		{`{ "a": { "b": [ {`, "} ] }", []string{"[[a.b]]"}, "[a^]"},
		{`{ "a": [ { "b": {`, "} } ]", []string{"[[a]]", "[a.b]"}, "[a^]"},
		{`{ "a": [ { "b": {`, "}", []string{"[[a]]", "[a.b]"}, "[[a.b^]]"},
		{`{ "a": [ { "b": {`, "}", []string{"[[a]]", "[a.b]"}, "[a.b^]"},
		// Rows that are closed.
		{`{ "a": [ { } ] "b": {`, "}", []string{"[[a]]", "[b]"}, "[[a^]]"},
		{`{ "a": [ { } ] "b": [ {`, "} ]", []string{"[[a]]", "[[b]]"}, "[[a^]]"},
		{`{ "a": [ { } ] "b": [ {`, "} ]", []string{"[[a]]", "[[b]]"}, "[a.c^]"},
		{`{ "a": { "b": [ { } ] "c": {`, "}", []string{"[[a.b]]", "[a.c]"}, "[[a.b^]]"},
		// Values.
		{`{ "a": 1`, "", []string{"a = 1"}, "a  ^= 2"},
		{`{ "a": 1`, "", []string{"a = 1"}, `"\u0061"^=2`},
		{`{ "a": 1`, "", []string{"a = 1"}, "[a^]"},
		{`{ "a": [ { } ]`, "", []string{"a = [{}]"}, "[[a^]]"},
		{`{ "a": { }`, "", []string{"a = {}"}, "[a.b^]"},
		{`{ "a": { "b": 1 }`, "", []string{"a = {b=1}"}, "a.c ^= 1"},
		{`{ "a": 1 "b": 2`, "", []string{"a = 1", "b = 2"}, "a.b ^= 3"},
		{`{ "a": { "b": 1 "c": 2`, "", []string{"a.b = 1", "a.c = 2"}, "a.b ^= 3"},
		{`{ "a": { "b": 1 "c": 2`, "", []string{"a.b = 1", "a.c = 2"}, "a.b.d ^= 3"},
		{`{ "a": { "b": 1`, "}", []string{"a.b = 1"}, "a ^= 3"},
		{`{ "a": { "b": 1 } "c": 2`, "", []string{"a.b = 1", "c = 2"}, "a.d ^= 3"},
		{`{ "a": { "b": 1 } "c": { "b": 2`, "}", []string{"a.b = 1", "c.b = 2"}, "a.c ^= 3"},
		{`{ "a": { "b": { "c": 1`, "} }", []string{"a.b.c = 1"}, "a ^= 3"},
		{`{ "a": { "b": { "c": 1 } "d": 2`, "", []string{"[a]", "b.c = 1", "d = 2"}, "b.e ^= 3"},
		{`{ "a": { "b": { "c": 1`, "}", []string{"[a]", "b.c = 1"}, "b ^= 3"},
		{`{ "r": [ { "k": { "l": 1 } "m": 2`, "", []string{"[[r]]", "k.l = 1", "m = 2"}, "k.n ^= 3"},
		{`{ "r": [ { "k": 1 } { "k": 2`, "", []string{"[[r]]", "k = 1", "[[r]]", "k = 2"}, "k ^= 3"},
		{`{ "a": { "b": {`, "}", []string{"[a]", "[a.b]"}, "[a.b^]"},
	} {
		ahead, behind, _ := strings.Cut(l.last, "^")
		text := lines(append(l.lines, ahead)...)
		want := follows(l.told, l.closed)
		for _, more := range []string{behind, behind + "\n[z]", behind + " x", behind[:1]} {
			syntax.Check(t, text+more, want, api.ErrTwice, len(text))
		}
		last(t, l.told, api.ErrUTF, text+behind+"\xff")
		last(t, l.told, api.ErrSyntax, text+"\x00") // ahead of what the line closes
	}
}

// TestDepth holds headers and assignments with more steps than may be open, each
// event told at its byte, behind what the line closes.
func TestDepth(t *testing.T) {
	good(t, "[a.b.c.d.e]", within("a b c d e", ""))
	good(t, "a.b.c.d.e.f = 1", within("a b c d e", `"f": 1`))
	good(t, "[[a.b.c.d]]", within("a b c", `"d": [ { } ]`))
	good(t, "[[a]]\n[[a.b]]", `{ "a": [ { "b": [ { } ] } ] }`)
	good(t, "[[a]]\n[[a.b]]\nc.d = 1", `{ "a": [ { "b": [ { "c": { "d": 1 } } ] } ] }`)
	six := `{ "a": { "b": { "c": { "d": { "e": {`
	rows := `{ "a": [ { "b": [ { "c": {`
	for _, l := range []struct{ told, text, last string }{
		{six + ` "f":`, "", "[a.b.c.d.e.f^]"}, {six + ` "f":`, "", "[a.b.c.d.e.f.g.h^]"}, {six + ` "f":`, "", "[[a.b.c.d.e.f^]]"}, {six + ` "f":`, "", "[[a.b.c.d.e.f.g^]]"}, {six[:len(six)-1] + "[", "", "[[a.b.c.d.e^]]"},
		{six + ` "f":`, "", "a.b.c.d.e.f.g ^= 1"}, {six + ` "f":`, "[a.b.c.d.e]\n", "f.g ^= 1"}, {six + ` "f":`, "[a.b.c.d.e]\n", "[a.b.c.d.e.f^]"}, {six + ` "f": 1 "g":`, "[a.b.c.d.e]\nf = 1\n", "g.h ^= 1"},
		{`{ "z": { "y": { } } "a": { "b": { "c": { "d": { "e": { "f":`, "[z.y]\n", "[a.b.c.d.e.f^]"}, {`{ "a": { "b": 1 "c": { "d": { "e": { "f": { "g":`, "a.b = 1\n", "[a.c.d.e.f.g^]"},
		{rows + ` "d":`, "[[a]]\n[[a.b]]\n", "c.d.e ^= 1"}, {rows + ` "d":`, "[[a]]\n[[a.b]]\n", "[a.b.c.d^]"}, {`{ "a": [ { "b": [ { "c": [`, "[[a]]\n[[a.b]]\n", "[[a.b.c^]]"}, {rows + ` } "d": [`, "[[a]]\n[[a.b]]\n[a.b.c]\n", "[[a.b.d^]]"},
		{`{ "a": [ { } { "b": { "c": { "d": { "e":`, "[[a]]\n[[a]]\n", "b.c.d.e.f ^= 1"},
	} {
		ahead, behind, _ := strings.Cut(l.text+l.last, "^")
		for _, more := range []string{behind, behind + "\n[z]", behind + " x", behind[:1]} {
			syntax.Check(t, ahead+more, l.told, api.ErrDepth, len(ahead))
		}
	}
	good(t, "[a.b.c.d.e]\n[f.g.h.i.j]\nk=1", `{ "a": { "b": { "c": { "d": { "e": { } } } } } "f": { "g": { "h": { "i": { "j": { "k": 1 } } } } } }`) // what is closed does not count
}

// TestFields holds maps of ten fields, which is all that they may have, by all
// that makes a field.
func TestFields(t *testing.T) {
	for _, l := range []struct{ line, told, ended string }{{"k% = 1", "1", ""}, {"k%.x = 1", `{ "x": 1`, " }"}, {"[k%]", "{", " }"}, {"[k%.x]", `{ "x": {`, " } }"}, {"[[k%]]", "[ {", " } ]"}, {"[[k%.x]]", `{ "x": [ {`, " } ] }"}} {
		text, told := "", "{"
		for i := range 10 {
			k := strconv.Itoa(i)
			text, told = text+strings.ReplaceAll(l.line, "%", k)+"\n", told+` "k`+k+`": `+l.told+l.ended
		}
		good(t, text[:len(text)-1], told+" }")
		for _, line := range []string{"[k^]", "[k.x^]", "[[k^]]", "[[k.x^]]"} {
			fails(t, text, line, told, api.ErrFields)
			fails(t, text, strings.ReplaceAll(line, "k", "k0"), told, api.ErrTwice) // ahead of it
		}
		if l.line[0] != '[' {
			fails(t, text, "k  ^= 1", told, api.ErrFields)
			fails(t, text, "k.x  ^= 1", told, api.ErrFields)
			fails(t, text, "k0 ^= 1", told, api.ErrTwice)
		}
	}
	text, told := "[[r]]\n", `{ "r": [ {`
	for i := range 10 {
		text, told = text+"k"+strconv.Itoa(i)+" = 1\n", told+` "k`+strconv.Itoa(i)+`": 1`
	}
	fails(t, text, "k ^= 1", told, api.ErrFields)
	fails(t, text, "[r.k^]", told, api.ErrFields)
	fails(t, text, "[[r.k^]]", told, api.ErrFields)
	fails(t, text, "[r.k0^]", told, api.ErrTwice)
	good(t, text+strings.TrimSpace(text), told+" } "+strings.TrimPrefix(told, `{ "r": [ `)+" } ] }") // each row has its own
	good(t, text+"[k]", told+` } ] "k": { } }`)
}

// fails holds the error of a line, which is met at the byte behind the ^.
func fails(t *testing.T, text, line, told string, e api.Errno) {
	t.Helper()
	ahead, behind, _ := strings.Cut(text+line, "^")
	syntax.Check(t, ahead+behind, told, e, len(ahead))
	syntax.Check(t, ahead+behind+" x", told, e, len(ahead))
	syntax.Check(t, ahead+behind+"\n\xff", told, e, len(ahead))
}
