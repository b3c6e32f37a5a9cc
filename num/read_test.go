package num_test

import (
	"regexp"
	"strconv"
	"strings"
	"testing"

	"hexapla/api"
	"hexapla/num"
	"hexapla/texts"
)

// isForm tells a normal form, but for its length and the size of its exponent.
var isForm = regexp.MustCompile(`^(0|-?([1-9]|[1-9][0-9]*[1-9])(e-?[1-9][0-9]*)?)$`)

func TestRead(t *testing.T) {
	for _, l := range []struct{ text, want string }{
		{"7", "7"}, {"12", "12"}, {"10", "1e1"}, {"1200", "12e2"}, {"1002", "1002"},
		{"0.5", "5e-1"}, {"-0.50", "-5e-1"}, {"1.0", "1"}, {"1.50", "15e-1"}, {"10.0", "1e1"},
		{"10.01", "1001e-2"}, {"0.001", "1e-3"}, {"0.0010", "1e-3"}, {"100.000", "1e2"}, {"123.4500", "12345e-2"},
		{"1e3", "1e3"}, {"1E3", "1e3"}, {"1e+3", "1e3"}, {"1E-3", "1e-3"}, {"1e0", "1"}, {"1e-0", "1"},
		{"1e003", "1e3"}, {"1e-00000000000000000000000003", "1e-3"}, {"1e000", "1"},
		{"15e-1", "15e-1"}, {"0.15E1", "15e-1"}, {"100e-2", "1"}, {"120e-1", "12"}, {"0.01e2", "1"},
		{"1.5e1", "15"}, {"1.25e1", "125e-1"}, {"20e9", "2e10"}, {"0.2e-9", "2e-10"},
		{"-1", "-1"}, {"-10", "-1e1"}, {"-1.5", "-15e-1"}, {"-0.001", "-1e-3"}, {"-1e5", "-1e5"},
		{"-1E-5", "-1e-5"}, {"-100e-2", "-1"}, {"-123.4500", "-12345e-2"},
	} {
		if form, e := num.Read(l.text); form != l.want || e != api.OK {
			t.Errorf("%q: %q %v", l.text, form, e)
		}
	}
}

func TestReadZero(t *testing.T) {
	for _, text := range []string{
		"0", "-0", "0.0", "-0.0", "0.000", "0e0", "0e7", "0E7", "-0e-7", "0e+7", "0.00e5", "-0.0E-0",
		"0e1000", "0e-1000", "0e99999999999999999999999999", "-0e-9999999999999999999999999",
		"0.0000000000000000000000000000", // 30 bytes
	} {
		if form, e := num.Read(text); form != "0" || e != api.OK {
			t.Errorf("%q: %q %v", text, form, e)
		}
	}
}

// TestReadExponents reads normal forms whose exponents are the last permitted
// ones, and the next ones, however they are spelt.
func TestReadExponents(t *testing.T) {
	for _, l := range []struct{ text, want string }{
		{"1e999", "1e999"}, {"-1e999", "-1e999"}, {"1e-999", "1e-999"}, {"-1E-999", "-1e-999"},
		{"10e998", "1e999"}, {"1000e996", "1e999"}, {"0.1e1000", "1e999"}, {"0.001e1002", "1e999"}, {"1.5e1000", "15e999"},
		{"10e-1000", "1e-999"}, {"1000e-1002", "1e-999"}, {"0.1e-998", "1e-999"}, {"1.5e-998", "15e-999"}, {"1.50e-998", "15e-999"},
		{"100000000000000000000000e-1022", "1e-999"}, {"0.000000000000000000001e1020", "1e999"},
		{"1e1000", ""}, {"-1e1000", ""}, {"1e-1000", ""}, {"-1e-1000", ""}, {"10e999", ""}, {"1000e997", ""},
		{"0.1e1001", ""}, {"0.1e-999", ""}, {"1.5e-999", ""}, {"10e-1001", ""}, {"1.5e1001", ""},
		{"1e9999999999999999999", ""}, {"1e-9999999999999999999", ""}, // past an int
		{"1e9223372036854775807", ""}, {"10e9223372036854775807", ""}, {"0.1e-9223372036854775808", ""},
		{"1e4294967296", ""}, {"1e18446744073709551616", ""}, {"1e-18446744073709551615", ""}, // 0 and 1 if cut to a word
		{"1e2058", ""}, {"1e-2058", ""}, {"1e2059", ""}, {"1e-3000", ""},
	} {
		checkRead(t, l.text, l.want)
	}
}

// TestReadLengths reads texts and normal forms of 30 bytes, and of more.
func TestReadLengths(t *testing.T) {
	nines := strings.Repeat("9", 40)
	for _, l := range []struct{ text, want string }{
		{nines[:29], nines[:29]}, {nines[:30], nines[:30]}, {nines[:31], ""},
		{"-" + nines[:29], "-" + nines[:29]}, {"-" + nines[:30], ""},
		{"1" + strings.Repeat("0", 29), "1e29"}, {"1" + strings.Repeat("0", 30), ""},
		{"0." + strings.Repeat("0", 27) + "1", "1e-28"}, {"0." + strings.Repeat("0", 28) + "1", ""},
		{"0." + strings.Repeat("0", 28), "0"}, {"0." + strings.Repeat("0", 29), ""},
		{"1e" + strings.Repeat("0", 27) + "5", "1e5"}, {"1e" + strings.Repeat("0", 28) + "5", ""},
		{"0e" + nines[:28], "0"}, {"0e" + nines[:29], ""},
		// The form is longer than the text.
		{"9." + nines[:25], nines[:26] + "e-25"}, {"9." + nines[:26], ""}, {"9." + nines[:28], ""},
		{"-9." + nines[:24], "-" + nines[:25] + "e-24"}, {"-9." + nines[:25], ""},
		{nines[:19] + "." + nines[:8], nines[:27] + "e-8"}, {nines[:18] + "." + nines[:9], nines[:27] + "e-9"},
		{nines[:19] + "." + nines[:9], ""}, {nines[:20] + "." + nines[:8], ""},
		{"0." + nines[:26], nines[:26] + "e-26"}, {"0." + nines[:27], ""},
		{"9." + nines[:25] + "e-9", nines[:26] + "e-34"}, {"9." + nines[:26] + "e9", ""},
		{"9." + nines[:24] + "e-75", nines[:25] + "e-99"}, {"9." + nines[:24] + "e-76", nines[:25] + "e-100"},
		{"9." + nines[:22] + "e-975", nines[:23] + "e-997"}, {"9." + nines[:22] + "e22", nines[:23]},
		{"9." + nines[:23] + "e23", nines[:24]}, {nines[:25] + "e999", nines[:25] + "e999"},
		{nines[:26] + "e999", nines[:26] + "e999"}, {nines[:27] + "e999", ""}, {nines[:25] + "e-999", nines[:25] + "e-999"},
	} {
		checkRead(t, l.text, l.want)
	}
}

func TestReadRefused(t *testing.T) {
	for _, text := range []string{
		"", "-", "--1", "01", "-01", "00", "1.", "-1.", "0.", ".5", "-.5", "1.e5", "1e", "1E", "1e+", "1E-", "1e1.5",
		"1.2.3", "1e5e5", "1e+-5", "+1", "+0", "1-", "1+1", "e5", ".", "x", "1x", "x1", "0x10", "1_000", "1,5",
		"Inf", "-Infinity", "NaN", "1f", "0b1", " ", " 1", "1 ", "1 0", "- 1", "1\n", "\t1", "1\x00",
		"\x80", "1\xff", "\xb2", "\u0661", "\uff11", "\u22121", "\"1\"",
	} {
		checkRead(t, text, "")
	}
}

// checkRead holds the answer to text against a form, "" for none.
func checkRead(t *testing.T, text, want string) {
	t.Helper()
	wantError := api.OK
	if want == "" {
		wantError = api.ErrNumber
	}
	if form, e := num.Read(text); form != want || e != wantError {
		t.Errorf("%q: %q %v, not %q %v", text, form, e, want, wantError)
	}
}

// readable reports whether text, of at most six bytes, has a form. An exponent
// past MaxExponent leaves room for a single digit ahead of it, so that it is the
// form's exponent too, or the value is zero.
func readable(text string) bool {
	if !isNumber.MatchString(text) {
		return false
	}
	if i := strings.IndexAny(text, "eE"); i >= 0 && text[0] != '0' {
		n, _ := strconv.Atoi(text[i+1:])
		return n <= api.MaxExponent
	}
	return true
}

// TestReadAll holds the form of each short text against what a form looks
// like, against the value of the text, and against what a form is read as.
func TestReadAll(t *testing.T) {
	for text := range texts.Short("0125-+.eE x", 6) {
		form, e := num.Read(text)
		if !readable(text) {
			if form != "" || e != api.ErrNumber {
				t.Fatalf("%q: %q %v", text, form, e)
			}
			continue
		}
		if e != api.OK || !isForm.MatchString(form) || valueOf(t, form).Cmp(valueOf(t, text)) != 0 {
			t.Fatalf("%q: %q %v", text, form, e)
		}
		if again, e := num.Read(form); again != form || e != api.OK {
			t.Fatalf("%q, the form of %q, is read as %q %v", form, text, again, e)
		}
	}
}
