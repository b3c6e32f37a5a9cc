package angle_test

import (
	"strconv"
	"strings"
	"testing"

	"hexapla/angle"
	"hexapla/api"
	"hexapla/checks"
)

// syntax is what is held against the promises of all decoders.
var syntax = checks.Syntax{New: func() checks.Decoder { return angle.New() }, Decode: angle.Decode}

// Names, namespaces and texts that are as long as they may, and longer.
var (
	n = strings.Repeat("n", 100)
	u = strings.Repeat("u", 100)
	x = strings.Repeat("x", 100)
)

// good holds the events of texts without errors.
func good(t *testing.T, want string, texts ...string) {
	t.Helper()
	for _, text := range texts {
		syntax.CheckOK(t, text, want)
	}
}

// last holds the events of texts whose error is met at the last byte.
func last(t *testing.T, want string, e api.Errno, texts ...string) {
	t.Helper()
	for _, text := range texts {
		syntax.CheckLast(t, text, want, e)
	}
}

// open holds the events of texts that are incomplete.
func open(t *testing.T, want string, texts ...string) {
	t.Helper()
	for _, text := range texts {
		syntax.CheckOpen(t, text, want)
	}
}

// rows writes some rows, of which each has its number in place of every #.
func rows(count int, row string) string {
	var out strings.Builder
	for i := range count {
		out.WriteString(strings.ReplaceAll(row, "#", strconv.Itoa(i)))
	}
	return out.String()
}

// but returns the bytes that may stand where all characters may but some.
func but(some string) string {
	all := "\xc3\xe2\xf0"
	for b := range 0x80 {
		if !strings.Contains(some, string(rune(b))) {
			all += string(rune(b))
		}
	}
	return all
}

// Bytes that may stand in some places.
const (
	blank  = " \t\n\r"
	begins = "abcdefghijklmnopqrstuvwxyzABCDEFGHIJKLMNOPQRSTUVWXYZ_"
	within = begins + "0123456789-."
	// never are those that raw text never has.
	never = "<\x00\x01\x02\x03\x04\x05\x06\x07\x08\x0b\x0c\x0e\x0f\x10\x11\x12\x13\x14\x15\x16\x17\x18\x19\x1a\x1b\x1c\x1d\x1e\x1f"
)
