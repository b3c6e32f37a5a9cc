package sections_test

import (
	"strings"
	"testing"

	"hexapla/api"
	"hexapla/checks"
	"hexapla/sections"
)

// syntax is what is held against the promises of all decoders.
var syntax = checks.Syntax{New: func() checks.Decoder { return sections.New() }, Decode: sections.Decode, Lines: true}

// lines joins lines by newlines.
func lines(l ...string) string { return strings.Join(l, "\n") }

// follows returns events and others behind them.
func follows(told, more string) string { return strings.TrimSpace(told + " " + more) }

// good holds the events of a text without errors, also with a newline behind it.
func good(t *testing.T, text, want string) {
	t.Helper()
	syntax.CheckLines(t, text, want)
}

// last holds the events of texts whose error is met at their last byte.
func last(t *testing.T, want string, e api.Errno, texts ...string) {
	t.Helper()
	for _, text := range texts {
		syntax.CheckLast(t, text, want, e)
	}
}

// open holds the events of texts that are incomplete where they end, and also
// where the line ends.
func open(t *testing.T, want string, texts ...string) {
	t.Helper()
	for _, text := range texts {
		syntax.CheckOpenLine(t, text, "z = 1", want)
	}
}

// marked holds the events of texts in which the error is met at the byte behind a
// ^, also with more blanks where there are some.
func marked(t *testing.T, e api.Errno, texts map[string]string) {
	t.Helper()
	for text, want := range texts {
		for _, blanks := range []string{" ", "   "} {
			ahead, behind, is := strings.Cut(strings.ReplaceAll(text, " ", blanks), "^")
			if !is {
				t.Errorf("%q: no ^", text)
			}
			syntax.Check(t, ahead+behind, want, e, len(ahead))
		}
	}
}
