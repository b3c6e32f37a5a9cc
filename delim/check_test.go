package delim_test

import (
	"strconv"
	"strings"

	"hexapla/checks"
	"hexapla/delim"
)

// syntax is what is held against the promises of all decoders.
var syntax = checks.Syntax{New: func() checks.Decoder { return delim.New() }, Decode: delim.Decode}

// row returns the events of a row, but for its end, as checks.Written writes
// them.
func row(names, cells []string) string {
	out := " {"
	for i, cell := range cells {
		out += " " + strconv.Quote(names[i]) + ": " + strconv.Quote(cell)
	}
	return out
}

// rows returns the events of the beginning of a table: of all of its rows.
func rows(names []string, list ...[]string) string {
	out := "["
	for _, cells := range list {
		out += row(names, cells) + " }"
	}
	return out
}

// table returns the events of a table.
func table(names []string, list ...[]string) string { return rows(names, list...) + " ]" }

// words returns the words of a text.
func words(text string) []string { return strings.Fields(text) }

// letters returns the names of n columns: a, b and so on.
func letters(n int) []string { return strings.Split("abcdefghijklmnop"[:n], "") }
