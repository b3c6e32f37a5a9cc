package outline_test

import (
	"strings"
	"testing"

	"hexapla/api"
	"hexapla/checks"
	"hexapla/outline"
)

// syntax is what is held against the promises of all decoders.
var syntax = checks.Syntax{New: func() checks.Decoder { return outline.New() }, Decode: outline.Decode, Lines: true}

// lines joins lines by newlines.
func lines(l ...string) string { return strings.Join(l, "\n") }

// good holds the events of a text without errors, also with a newline behind it.
func good(t *testing.T, text, want string) {
	t.Helper()
	syntax.CheckLines(t, text, want)
}

// last holds the events of texts whose error is met at their last byte.
func last(t *testing.T, want string, e api.Errno, texts ...string) {
	t.Helper()
	for _, text := range texts {
		syntax.CheckLast(t, text, want, e)
	}
}

// open holds the events of texts that are incomplete where they end, and also
// where the line ends.
func open(t *testing.T, want string, texts ...string) {
	t.Helper()
	for _, text := range texts {
		syntax.CheckOpenLine(t, text, "- 1", want)
	}
}
