package delim_test

import (
	"strings"
	"testing"

	"hexapla/api"
)

// ends are what may follow a row: at the end of the text, nothing does.
var ends = []string{"", "\n"}

// met holds an error that is met at the byte behind a text, or at its end, with
// each of some bytes there, whatever follows.
func met(t *testing.T, text, want string, e api.Errno, bytes ...string) {
	t.Helper()
	for _, b := range bytes {
		syntax.Check(t, text+b, want, e, len(text))
		if b != "" {
			syntax.CheckLast(t, text+b, want, e)
		}
	}
}

// TestTwice has each name of some again, as the next one and as a later one.
func TestTwice(t *testing.T) {
	for n := 1; n < 8; n++ {
		names := letters(n)
		for _, name := range names {
			met(t, strings.Join(names, ",")+","+name, "[", api.ErrTwice, "", "\n", ",")
			met(t, strings.Join(names, ",")+`,"`+name+`"`, "[", api.ErrTwice, "", "\n", ",")
		}
	}
}

// TestSameNames holds which names are the same: those with the same contents.
func TestSameNames(t *testing.T) {
	x := strings.Repeat("x", 48)
	for _, l := range []struct{ first, again string }{
		{"", ""}, {`""`, ""}, {"", `""`}, {`""`, `""`}, {"a", `"a"`}, {`"a"`, "a"}, {`"a,b"`, `"a,b"`}, {`""""`, `""""`}, {"é", `"é"`}, {"\"\n\"", "\"\n\""}, {" ", `" "`}, {x, `"` + x + `"`},
	} {
		met(t, l.first+","+l.again, "[", api.ErrTwice, "", "\n", ",")
		met(t, l.first+",c,"+l.again, "[", api.ErrTwice, "", "\n", ",")
		met(t, "c,"+l.first+",d,"+l.again, "[", api.ErrTwice, "", "\n", ",")
	}
	for _, header := range []string{"a,A", "a,aa", "aa,a", "a, a", "a ,a", `a,""`, `a,"a"""`, "é,e", "e\u0301,é", x + "," + x[1:], `"a,b",a,b`, "\"a\n\",a"} {
		syntax.CheckOK(t, header, "[ ]")
	}
}

// TestColumns holds how many columns there may be.
func TestColumns(t *testing.T) {
	for n := 1; n <= 8; n++ {
		names := letters(n)
		for _, end := range ends {
			syntax.CheckOK(t, strings.Join(names, ",")+end, "[ ]")
		}
		syntax.CheckOK(t, strings.Join(names, ",")+"\n"+strings.Join(names, ","), table(names, names))
	}
	met(t, "a,b,c,d,e,f,g,h", "[", api.ErrColumns, ",")
	met(t, `a,b,c,d,e,f,g,""`, "[", api.ErrColumns, ",")
	met(t, "a,b,c,d,e,f,g,", "[", api.ErrColumns, ",")
	met(t, ",b,c,d,e,f,g,"+strings.Repeat("h", 48), "[", api.ErrColumns, ",")
	met(t, `"a,","b,",c,d,e,f,g,"h,"`, "[", api.ErrColumns, ",") // these commas do not count
	met(t, "a,b,c,d,e,f,g,a", "[", api.ErrTwice, ",", "\n", "")  // ahead of ErrColumns
	met(t, "a,b,c,d,e,f,g,g", "[", api.ErrTwice, ",", "\n", "")
	syntax.CheckLast(t, "a,b,c,d,e,f,g,h\xff", "[", api.ErrUTF) // ahead of the comma
	syntax.CheckLast(t, "a,b,c,d,e,f,g,h\t", "[", api.ErrSyntax)
}

// TestCount has rows with cells too few, and with one too many, as the first row
// and as a later one.
func TestCount(t *testing.T) {
	for n := 1; n <= 8; n++ {
		names, cells := letters(n), strings.Split("12345678"[:n], "")
		header, whole := strings.Join(names, ",")+"\n", strings.Join(cells, ",")
		for before, list := range map[string][][]string{"": nil, whole + "\n": {cells}, whole + "\n" + header: {cells, names}} {
			text, want := header+before, rows(names, list...)
			met(t, text+whole, want+row(names, cells), api.ErrCount, ",")
			met(t, text+`"`+strings.ReplaceAll(whole, ",", `","`)+`"`, want+row(names, cells), api.ErrCount, ",")
			for k := 1; k < n; k++ {
				few := text + strings.Join(cells[:k], ",")
				met(t, few, want+row(names, cells[:k]), api.ErrCount, "", "\n")
				if k < n-1 { // an empty cell behind them is not enough
					met(t, few+",", want+row(names, append(cells[:k:k], "")), api.ErrCount, "", "\n")
				}
			}
		}
	}
}

// TestCountEmpty has cells that are empty, or quoted, where the row is too short
// or too long.
func TestCountEmpty(t *testing.T) {
	names := letters(2)
	met(t, "a,b\n", rows(names)+row(names, []string{""}), api.ErrCount, "\n")
	met(t, "a,b\n"+`""`, rows(names)+row(names, []string{""}), api.ErrCount, "\n", "")
	met(t, "a,b\n"+`"1"`, rows(names)+row(names, words("1")), api.ErrCount, "\n", "")
	met(t, "a,b\n,", rows(names)+row(names, []string{"", ""}), api.ErrCount, ",")
	met(t, "a,b\n1,", rows(names)+row(names, []string{"1", ""}), api.ErrCount, ",")
	met(t, "a,b\n"+`1,""`, rows(names)+row(names, []string{"1", ""}), api.ErrCount, ",")
	met(t, "a\n", `[ { "a": ""`, api.ErrCount, ",")
	met(t, "a\n"+`"x,y"`, `[ { "a": "x,y"`, api.ErrCount, ",")
	met(t, "\n", `[ { "": ""`, api.ErrCount, ",")
	syntax.CheckOK(t, "a,b\n"+`",",","`, table(names, []string{",", ","}))
	syntax.CheckLast(t, "a,b\n1\xff", "[", api.ErrUTF) // ahead of the end of the cell
	syntax.CheckLast(t, "a\n1\xff", "[", api.ErrUTF)
}
