package delim_test

import (
	"strings"
	"testing"

	"hexapla/api"
)

// TestDocument holds the examples of the document.
func TestDocument(t *testing.T) {
	syntax.Check(t, "a,b\n1,\"x\"\"y\"\n", `[ { "a": "1" "b": "x\"y" } ]`, api.OK, 13)
	syntax.CheckOK(t, "a,b\n1,\"x\"\"y\"", `[ { "a": "1" "b": "x\"y" } ]`)
	syntax.CheckOK(t, "a\n\n", `[ { "a": "" } ]`)
	syntax.Check(t, "a,b\n1\n", `[ { "a": "1"`, api.ErrCount, 5)
	syntax.Check(t, "a,a\n", "[", api.ErrTwice, 3)
	syntax.Check(t, "a\n1,", `[ { "a": "1"`, api.ErrCount, 3)
}

// TestShortest holds the texts with at most one byte that are no plain cell.
func TestShortest(t *testing.T) {
	syntax.Check(t, "", "[ ]", api.OK, 0)
	syntax.Check(t, "\n", "[ ]", api.OK, 1)
	syntax.Check(t, ",", "[", api.ErrTwice, 1)
	syntax.Check(t, `"`, "[", api.ErrSyntax, 1)
	for b := range byte(' ') {
		if b != '\n' {
			syntax.CheckLast(t, string([]byte{b}), "[", api.ErrSyntax) // List comes ahead of it
		}
	}
	syntax.CheckLast(t, "\x80", "", api.ErrUTF)
	syntax.CheckLast(t, "\xff", "", api.ErrUTF)
}

func TestHeader(t *testing.T) {
	for _, text := range []string{"a", " ", `""`, `"a"`, "a,b", `a,"b"`, `"a",b`, `a,`, `,a`, `"",a`, `a,""`, "a,b,c", "é,\U0001f600", `"a,b"`, "\"a\nb\"", `"""",""""""`, "a,A", "a,a ", `"a"," a"`, "1,2", "\x7f"} {
		syntax.CheckOK(t, text, "[ ]")
		syntax.CheckOK(t, text+"\n", "[ ]")
		syntax.CheckOpen(t, text+`,"`, "[")
	}
}

// TestRows holds tables whose last row ends with a newline, or with the text.
func TestRows(t *testing.T) {
	for n := 1; n <= 8; n++ {
		names := letters(n)
		header := strings.Join(names, ",")
		ones, long := strings.Repeat("1", n), strings.Repeat("x", 48)
		first, second := strings.Split(ones, ""), make([]string, n)
		for i := range second {
			second[i] = long[i:]
		}
		for _, end := range []string{"", "\n"} {
			syntax.CheckOK(t, header+end, "[ ]")
			syntax.CheckOK(t, header+"\n"+strings.Join(first, ",")+end, table(names, first))
			syntax.CheckOK(t, header+"\n"+strings.Join(first, ",")+"\n"+strings.Join(second, ",")+end, table(names, first, second))
			syntax.CheckOK(t, header+"\n"+`"`+strings.Join(second, `","`)+`"`+"\n"+header+end, table(names, second, names))
		}
	}
}

// TestEmptyRows holds rows without a byte: a cell each, but for the last one,
// which is none at the end of the text.
func TestEmptyRows(t *testing.T) {
	names, none := words("a"), []string{""}
	syntax.CheckOK(t, "a\n", table(names))
	syntax.CheckOK(t, "a\n\n", table(names, none))
	syntax.CheckOK(t, "a\n\n\n\n", table(names, none, none, none))
	syntax.CheckOK(t, "a\n\nb\n\nc", table(names, none, words("b"), none, words("c")))
	syntax.CheckOK(t, "a\n\"\"", table(names, none))
	syntax.CheckOK(t, "a\n\"\"\n", table(names, none))
	syntax.CheckOK(t, "a\n\"\"\n\n\"\"", table(names, none, none, none))
	syntax.CheckOK(t, "\n\n", table(none, none))
	syntax.CheckOK(t, "\n\nx", table(none, none, words("x")))
	syntax.CheckOK(t, `""`+"\n\n", table(none, none))
	for _, text := range []string{"a,b\n\n", "a,b\n\"\"\n", "a,b\n\"\""} {
		syntax.Check(t, text, rows(names)+row(names, none), api.ErrCount, len(strings.TrimSuffix(text[4:], "\n"))+4)
	}
	syntax.Check(t, "a,b\n1,2\n\n", rows(letters(2), words("1 2"))+row(names, none), api.ErrCount, 8)
}

// TestEmptyCells holds empty cells in all places of a row, plain and quoted.
func TestEmptyCells(t *testing.T) {
	names := letters(3)
	for empty := range 8 {
		for _, none := range []string{"", `""`} {
			cells, wants := words("x y z"), words("x y z")
			for i := range cells {
				if empty>>i&1 == 1 {
					cells[i], wants[i] = none, ""
				}
			}
			text := strings.Join(cells, ",")
			syntax.CheckOK(t, "a,b,c\n"+text, table(names, wants))
			syntax.CheckOK(t, "a,b,c\n"+text+"\n", table(names, wants))
			syntax.CheckOK(t, "a,b,c\n"+text+"\n"+text, table(names, wants, wants))
			if empty&(empty-1) == 0 { // one name may be empty
				syntax.CheckOK(t, text+"\n1,2,3", table(wants, words("1 2 3")))
			}
		}
	}
}

// TestOwnNames holds that keys are the names of the columns, of all rows, also
// where cells are like names.
func TestOwnNames(t *testing.T) {
	syntax.CheckOK(t, "a,b\nb,a\na,a\nb,b\n", table(letters(2), words("b a"), words("a a"), words("b b")))
	syntax.CheckOK(t, "b,a\n1,2", table(words("b a"), words("1 2")))
	syntax.CheckOK(t, `"x,y",é,""`+"\n1,2,3", table([]string{"x,y", "é", ""}, words("1 2 3")))
	syntax.CheckOK(t, "null,12\ntrue,-1e5", table(words("null 12"), words("true -1e5")))
}
