package token_test

import (
	"strings"
	"testing"

	"hexapla/api"
	"hexapla/names"
	"hexapla/num"
	"hexapla/texts"
	"hexapla/token"
)

// open is a number or a name.
type open interface {
	Goes(b byte) bool
	Add(b byte) api.Errno
	End() (string, api.Errno)
}

// read reads a token from the beginning of text, and returns how many bytes it
// takes, and its normal form or the error that is met.
func read(n open, text string) (int, string, api.Errno) {
	for i := range len(text) {
		if !n.Goes(text[i]) {
			form, e := n.End()
			return i, form, e
		}
		if e := n.Add(text[i]); e != api.OK {
			return i, "", e
		}
	}
	form, e := n.End()
	return len(text), form, e
}

func check(t *testing.T, text string, length int, form string, e api.Errno) {
	t.Helper()
	if gotLength, got, gotE := read(&token.Number{}, text); gotLength != length || got != form || gotE != e {
		t.Errorf("%q: %d %q %v, not %d %q %v", text, gotLength, got, gotE, length, form, e)
	}
}

func TestNumber(t *testing.T) {
	for _, l := range append(texts.Numbers(), texts.LongNumbers()...) {
		check(t, l.Text, len(l.Text), l.Want, api.OK)
		for _, more := range []string{" ", "x", "-", ",", "\xff", "é"} {
			check(t, l.Text+more, len(l.Text), l.Want, api.OK)
		}
	}
	check(t, "01", 1, "0", api.OK)
	check(t, "1-2", 1, "1", api.OK)
	check(t, "1.5.2", 3, "15e-1", api.OK)
	for _, text := range texts.OpenNumbers() {
		check(t, text, len(text), "", api.ErrSyntax)
		check(t, text+" 1", len(text), "", api.ErrSyntax)
	}
	for _, text := range texts.RefusedNumbers() {
		check(t, text, len(text), "", api.ErrNumber)
		check(t, text+"x", len(text), "", api.ErrNumber)
	}
	for _, text := range texts.TooLongNumbers() {
		check(t, text, 30, "", api.ErrToken)
		check(t, text+"0", 30, "", api.ErrToken)
	}
	for _, text := range []string{"", "x", "+1", ".5", "e1", " 1", "\xff"} {
		check(t, text, 0, "", api.ErrSyntax)
	}
}

// TestNumbersInRow reads numbers by one Number.
func TestNumbersInRow(t *testing.T) {
	var n token.Number
	for rest := "1-2-0.5-1e1000-3.-4"; rest != ""; {
		length, form, e := read(&n, rest)
		want, wantE := num.Read(rest[:length])
		if rest[:length] == "-3." {
			wantE = api.ErrSyntax
		}
		if form != want || e != wantE {
			t.Errorf("%q: %q %v", rest[:length], form, e)
		}
		rest = rest[length:]
	}
}

// TestAllNumbers reads all short texts of the bytes of numbers.
func TestAllNumbers(t *testing.T) {
	for text := range texts.Short("-0.1e+ ", 6) {
		length := 0
		for length < len(text) {
			if begins, _ := num.May(text[:length+1]); !begins {
				break
			}
			length++
		}
		want, e := num.Read(text[:length])
		if _, whole := num.May(text[:length]); !whole {
			e = api.ErrSyntax
		}
		check(t, text, length, want, e)
	}
}

func checkName(t *testing.T, text string, length int, e api.Errno) {
	t.Helper()
	want := text[:length]
	if e != api.OK {
		want = ""
	}
	if gotLength, got, gotE := read(&token.Name{}, text); gotLength != length || got != want || gotE != e {
		t.Errorf("%q: %d %q %v, not %d %v", text, gotLength, got, gotE, length, e)
	}
}

func TestName(t *testing.T) {
	long := strings.Repeat("n", 16)
	for _, name := range []string{"a", "Z", "_", "a1", "a-", "a.b", "_-_", "null", long, "_" + strings.Repeat("9", 15)} {
		checkName(t, name, len(name), api.OK)
		for _, more := range []string{" ", ":", "\"", "\x00", "\xff", "é", "&", "/"} {
			checkName(t, name+more, len(name), api.OK)
		}
	}
	for _, more := range []string{"a", "Z", "0", "_", "-", "."} {
		checkName(t, long+more, 16, api.ErrToken)
		checkName(t, long+more+":", 16, api.ErrToken)
	}
	for _, text := range []string{"", " a", "1", "-", ".", ":", "\xff", "é"} {
		checkName(t, text, 0, api.ErrSyntax)
	}
}

// TestNamesInRow reads names by one Name.
func TestNamesInRow(t *testing.T) {
	var n token.Name
	for _, text := range []string{"a1", "", "b", strings.Repeat("n", 16), "c"} {
		if length, name, e := read(&n, text); length != len(text) || name != text || (e == api.OK) != (text != "") {
			t.Errorf("%q: %d %q %v", text, length, name, e)
		}
	}
}

// TestBare holds that a bare name is one that ends ahead of a dot.
func TestBare(t *testing.T) {
	long := strings.Repeat("n", 16)
	for _, name := range []string{"a", "_", "a1-_Z", "a.b", "a.", "b..c", "a1.5", long, long + ".x", long + "x.", strings.Repeat("n", 17), "", ".", ".a", "1", "-", "é"} {
		for _, more := range []string{"", ".", " ", "=", "\""} {
			text := name + more
			head, _, _ := strings.Cut(text, ".")
			wantLength, want, wantE := read(&token.Name{}, head)
			if length, got, e := read(&token.Bare{}, text); length != wantLength || got != want || e != wantE {
				t.Errorf("%q: %d %q %v", text, length, got, e)
			}
		}
	}
}

// TestAllBytes holds all bytes that a name may begin or go on with.
func TestAllBytes(t *testing.T) {
	for b := range 256 {
		text := string([]byte{byte(b)})
		var n token.Name
		if got := n.Goes(byte(b)); got != names.Local(text) {
			t.Errorf("%d: %v", b, got)
		}
		for _, begin := range []string{"a", "_.", strings.Repeat("n", 15), strings.Repeat("n", 16)} {
			var n token.Name
			for i := range len(begin) {
				n.Add(begin[i])
			}
			if got := n.Goes(byte(b)); got != names.Local("a"+text) {
				t.Errorf("%s, %d: %v", begin, b, got)
			}
			if got := (&token.Bare{Name: n}).Goes(byte(b)); got != (b != '.' && names.Local("a"+text)) {
				t.Errorf("%s without a dot, %d: %v", begin, b, got)
			}
		}
	}
}

func TestBlank(t *testing.T) {
	for b := range 256 {
		if got := token.Blank(byte(b)); got != strings.Contains("\t\n\r ", string([]byte{byte(b)})) {
			t.Errorf("%d: %v", b, got)
		}
	}
}
