package num_test

import (
	"regexp"
	"strings"
	"testing"

	"hexapla/num"
	"hexapla/texts"
)

// The numbers, and what they begin with, as the document's words spell them.
var (
	isNumber = regexp.MustCompile(`^-?(0|[1-9][0-9]*)(\.[0-9]+)?([eE][+-]?[0-9]+)?$`)
	begins   = regexp.MustCompile(`^(-?|-?(0|[1-9][0-9]*)(\.[0-9]*)?|-?(0|[1-9][0-9]*)(\.[0-9]+)?[eE][+-]?[0-9]*)$`)
)

func TestMay(t *testing.T) {
	for _, l := range []struct {
		text       string
		begins, is bool
	}{
		{"", true, false}, {"-", true, false}, {"--", false, false},
		{"0", true, true}, {"-0", true, true}, {"7", true, true}, {"-120", true, true},
		{"00", false, false}, {"01", false, false}, {"-01", false, false}, {"10", true, true},
		{"1.", true, false}, {"0.", true, false}, {"-0.", true, false}, {"1.0", true, true},
		{"0.00", true, true}, {"-0.50", true, true}, {".", false, false}, {".5", false, false},
		{"-.5", false, false}, {"1..", false, false}, {"1.2.", false, false}, {"1.-", false, false},
		{"1e", true, false}, {"1E", true, false}, {"1e+", true, false}, {"1E-", true, false},
		{"1e5", true, true}, {"1E5", true, true}, {"1e+5", true, true}, {"1E-5", true, true},
		{"0e0", true, true}, {"1e007", true, true}, {"1e-000", true, true}, {"1.5e10", true, true},
		{"e", false, false}, {"E5", false, false}, {"-e5", false, false}, {"1.e5", false, false},
		{"1ee", false, false}, {"1e5e", false, false}, {"1e++", false, false}, {"1e5-", false, false},
		{"1e.", false, false}, {"1e5.", false, false}, {"1-", false, false}, {"1+", false, false},
		{"+", false, false}, {"+1", false, false},
		{" ", false, false}, {" 1", false, false}, {"1 ", false, false}, {"- 1", false, false},
		{"1\n", false, false}, {"\t1", false, false}, {"1\x00", false, false},
		{"x", false, false}, {"1x", false, false}, {"0x1", false, false}, {"1_0", false, false},
		{"1,5", false, false}, {"Inf", false, false}, {"NaN", false, false}, {"1f", false, false},
		{"\x80", false, false}, {"1\xff", false, false}, {"\u0661", false, false}, {"\u22121", false, false},
		{"1/", false, false}, {"1:", false, false}, // the neighbours of the digits
	} {
		if begins, is := num.May(l.text); begins != l.begins || is != l.is {
			t.Errorf("%q: %v %v", l.text, begins, is)
		}
	}
}

// TestMayLong asks for texts that are longer than a number that is read.
func TestMayLong(t *testing.T) {
	digits := strings.Repeat("1234567890", 50)
	for _, text := range []string{digits, "-" + digits, "0." + digits, "1e" + digits, digits + "." + digits + "E-" + digits} {
		if begins, is := num.May(text); !begins || !is {
			t.Errorf("%q: %v %v", text, begins, is)
		}
		if begins, is := num.May(text + "x"); begins || is {
			t.Errorf("%qx: %v %v", text, begins, is)
		}
	}
	if begins, is := num.May(digits + "."); !begins || is {
		t.Errorf("%q.: %v %v", digits, begins, is)
	}
}

// TestMayAll holds all short texts of a number's bytes and some others against
// the grammar.
func TestMayAll(t *testing.T) {
	for text := range texts.Short("019-+.eE x\xff", 5) {
		if a, b := num.May(text); a != begins.MatchString(text) || b != isNumber.MatchString(text) {
			t.Fatalf("%q: %v %v", text, a, b)
		}
	}
}

// TestMayEveryByte puts each byte behind the beginnings of a number of each
// kind.
func TestMayEveryByte(t *testing.T) {
	for _, start := range []string{"", "-", "0", "-0", "7", "70", "7.", "7.0", "7e", "7E", "7e+", "7e-", "7e0", "7.5e2", "x"} {
		for b := range 256 {
			text := start + string([]byte{byte(b)})
			if a, is := num.May(text); a != begins.MatchString(text) || is != isNumber.MatchString(text) {
				t.Errorf("%q: %v %v", text, a, is)
			}
		}
	}
}
