package num_test

import (
	"math/big"
	"strings"
	"testing"

	"hexapla/api"
	"hexapla/num"
)

// valueOf returns the value of a number, worked out by the library.
func valueOf(t *testing.T, text string) *big.Rat {
	t.Helper()
	value, ok := new(big.Rat).SetString(text)
	if !ok {
		t.Fatalf("%q has no value", text)
	}
	return value
}

func TestCompare(t *testing.T) {
	for _, l := range []struct {
		a, b string
		want int
	}{
		{"1", "2", -1}, {"9", "10", -1}, {"100", "99", 1}, {"1e2", "99.9", 1}, {"1e2", "100.1", -1},
		{"123", "124", -1}, {"12", "123", -1}, {"12", "1.23", 1}, {"12", "12.3", -1}, {"1.2", "1.23", -1},
		{"1.9", "1.23", 1}, {"0.1", "0.09", 1}, {"0.123", "0.2", -1}, {"9e9", "1e10", -1}, {"19e8", "2e9", -1},
		{"-5", "-50", 1}, {"-1", "1", -1}, {"1", "-1", 1}, {"-1.2", "-1.23", 1}, {"-1e-5", "-1e5", 1}, {"-9", "-9.1", 1},
		{"0", "-0", 0}, {"0", "0e99", 0}, {"-0.0", "0E-5", 0}, {"0", "1e-999", -1}, {"0", "-1e-999", 1}, {"1e-999", "0", 1}, {"-1e-999", "-0", -1},
		{"1.0", "1", 0}, {"12", "1.2e1", 0}, {"1.50", "15e-1", 0}, {"0.15E1", "15e-1", 0}, {"-10", "-1E+1", 0}, {"1000e-1002", "0.1e-998", 0},
		{"1e-999", "1e999", -1}, {"-1e999", "1e-999", -1}, {"1e998", "1e999", -1}, {"-1e998", "-1e999", 1}, {"1e-998", "1e-999", 1},
		{"10e998", "1e999", 0}, {"9e998", "1e999", -1}, {"99e998", "1e999", 1}, // their first digits have one place
		{"999999999999999999999999999998", "999999999999999999999999999999", -1},
		{"100000000000000000000000000001", "1e29", 1}, {"0.1000000000000000000000001", "0.1", 1},
		{"9007199254740993", "9007199254740992", 1}, {"18446744073709551617", "18446744073709551616", 1}, // one float64, one word
	} {
		if n, e := num.Compare(l.a, l.b); n != l.want || e != api.OK {
			t.Errorf("%q, %q: %d %v", l.a, l.b, n, e)
		}
		if n, e := num.Compare(l.b, l.a); n != -l.want || e != api.OK {
			t.Errorf("%q, %q: %d %v", l.b, l.a, n, e)
		}
	}
}

func TestCompareRefused(t *testing.T) {
	wrong := []string{
		"", "-", "01", "1.", ".5", "1e", "1e+", "+1", " 1", "1 ", "x", "1\xff", "1e1000", "1e-1000", "-1e9999999999999999999",
		"1234567890123456789012345678901", "9." + strings.Repeat("9", 28), // too long, as a text and as a form
	}
	for _, text := range wrong {
		for _, other := range append([]string{"0", "1", "-1"}, wrong...) {
			if n, e := num.Compare(text, other); n != 0 || e != api.ErrNumber {
				t.Errorf("%q, %q: %d %v", text, other, n, e)
			}
			if n, e := num.Compare(other, text); n != 0 || e != api.ErrNumber {
				t.Errorf("%q, %q: %d %v", other, text, n, e)
			}
		}
	}
}

// spellings returns numbers of each kind, many of them of one value.
func spellings() []string {
	var list []string
	for _, sign := range []string{"", "-"} {
		for _, mantissa := range []string{
			"0", "0.0", "0.00", "1", "1.0", "10", "100", "0.1", "0.10", "0.01", "12", "1.2", "0.12", "120", "1.23", "123",
			"9", "0.9", "99", "9.9", "1000000000000001", "1.000000000000001", "11", "2",
		} {
			for _, power := range []string{"", "e0", "E1", "e-1", "e+2", "E-2", "e05", "e-0017", "e990", "E-980"} {
				list = append(list, sign+mantissa+power)
			}
		}
	}
	return list
}

// TestCompareAll holds the numbers, two by two, against the library's values,
// and equality against the equality of forms.
func TestCompareAll(t *testing.T) {
	list := spellings()
	forms, values := make([]string, len(list)), make([]*big.Rat, len(list))
	for i, text := range list {
		form, e := num.Read(text)
		if e != api.OK {
			t.Fatalf("%q: %v", text, e)
		}
		forms[i], values[i] = form, valueOf(t, text)
	}
	for i, a := range list {
		for j, b := range list {
			n, e := num.Compare(a, b)
			if want := values[i].Cmp(values[j]); n != want || e != api.OK {
				t.Fatalf("%q, %q: %d %v, not %d", a, b, n, e, want)
			}
			if (n == 0) != (forms[i] == forms[j]) {
				t.Fatalf("%q is %q and %q is %q, and they compare as %d", a, forms[i], b, forms[j], n)
			}
		}
	}
}

// TestFormsAreRead reads the form of each spelling: it is unchanged.
func TestFormsAreRead(t *testing.T) {
	list := append(spellings(), "999999999999999999999999999999", "0.0000000000000000000000000001", "-1E-999", "10e998", "9.9999999999999999999999999")
	for _, text := range list {
		form, e := num.Read(text)
		if e != api.OK || !isForm.MatchString(form) {
			t.Errorf("%q: %q %v", text, form, e)
		}
		if again, e := num.Read(form); again != form || e != api.OK {
			t.Errorf("%q: %q %v", form, again, e)
		}
	}
}
