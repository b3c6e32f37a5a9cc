package brace_test

import (
	"strconv"
	"strings"
	"testing"
	"unicode/utf8"

	"hexapla/api"
)

func TestNumbers(t *testing.T) {
	for text, want := range map[string]string{
		"0": "0", "-0": "0", "7": "7", "10": "1e1", "-0.50": "-5e-1", "1e3": "1e3", "1E+03": "1e3", "0e7": "0", "1.50": "15e-1", "15e-1": "15e-1",
		"0.15E1": "15e-1", "1e999": "1e999", "1e-999": "1e-999", "123456789": "123456789", "1e0": "1",
	} {
		checkOK(t, text, want)
		checkOK(t, text+" ", want)
		checkOK(t, " "+text+"\n", want)
		checkOK(t, "["+text+"]", "[ "+want+" ]")
		checkOK(t, "["+text+","+text+" ,"+text+"\t]", "[ "+want+" "+want+" "+want+" ]")
		checkOK(t, `{"a":`+text+`,"b":`+text+"}", `{ "a": `+want+` "b": `+want+" }")
		for _, more := range []string{"x", "]", "}", ",", ":", `"`, "[", "n", "/", "\x00", "é"} {
			check(t, text+more, want, api.ErrSyntax, len(text))
		}
		check(t, text+"\xff", "", api.ErrUTF, len(text))
		check(t, text+" \xff", want, api.ErrUTF, len(text)+1)
		checkOpen(t, "["+text, "[ "+want)
		check(t, "["+text+"}", "[ "+want, api.ErrSyntax, len(text)+1)
		check(t, "["+text+"x", "[ "+want, api.ErrSyntax, len(text)+1)
	}
}

// TestLongestNumber holds where a number ends: where none goes on.
func TestLongestNumber(t *testing.T) {
	check(t, "01", "0", api.ErrSyntax, 1)
	check(t, "-01", "0", api.ErrSyntax, 2)
	check(t, "00", "0", api.ErrSyntax, 1)
	check(t, "1-2", "1", api.ErrSyntax, 1)
	check(t, "1+2", "1", api.ErrSyntax, 1)
	check(t, "1.5.2", "15e-1", api.ErrSyntax, 3)
	check(t, "1e5e", "1e5", api.ErrSyntax, 3)
	check(t, "1e5.", "1e5", api.ErrSyntax, 3)
	check(t, "1e5-", "1e5", api.ErrSyntax, 3)
	check(t, "[1-2]", "[ 1", api.ErrSyntax, 2)
	check(t, "[0 1]", "[ 0", api.ErrSyntax, 3)
	check(t, "1 .5", "1", api.ErrSyntax, 2)
	check(t, "- 1", "", api.ErrSyntax, 1)
	for _, text := range []string{"+1", ".5", "e5", "Infinity", "NaN", "\u0661"} {
		check(t, text, "", api.ErrSyntax, 0)
	}
	check(t, "0x1", "0", api.ErrSyntax, 1)
	check(t, "-Infinity", "", api.ErrSyntax, 1)
}

// TestNoNumber asks for what a number begins with, and is none at its end.
func TestNoNumber(t *testing.T) {
	for _, text := range []string{"-", "1.", "-0.", "1e", "1E", "1e+", "1e-", "1.5e", "0.0E-", "12."} {
		checkOpen(t, text, "")
		checkOpen(t, "["+text, "[")
		for _, more := range []string{" ", "\n", ",", "]", "}", "x", `"`, ":", "n", "é", "\xc3"} {
			check(t, text+more, "", api.ErrSyntax, len(text))
			check(t, "["+text+more, "[", api.ErrSyntax, len(text)+1)
		}
		check(t, text+"\xff", "", api.ErrUTF, len(text))
	}
	check(t, "1.x", "", api.ErrSyntax, 2)
	check(t, "--1", "", api.ErrSyntax, 1)
	check(t, "1..2", "", api.ErrSyntax, 2)
	check(t, "1.e5", "", api.ErrSyntax, 2)
	check(t, "1ee", "", api.ErrSyntax, 2)
	check(t, "1e+-", "", api.ErrSyntax, 3)
}

// TestLongNumbers asks for numbers of 30 bytes, and for one byte more.
func TestLongNumbers(t *testing.T) {
	ones := strings.Repeat("1", 30)
	for text, want := range map[string]string{
		ones: ones, "-" + ones[:29]: "-" + ones[:29], "9" + strings.Repeat("0", 29): "9e29", "0." + strings.Repeat("0", 27) + "1": "1e-28",
		ones[:25] + ".0e-0": ones[:25], "1e" + strings.Repeat("0", 27) + "2": "1e2", "1" + strings.Repeat("0", 25) + "e-25": "1", "0." + strings.Repeat("0", 28): "0",
	} {
		if len(text) != 30 {
			t.Fatalf("%q: %d bytes", text, len(text))
		}
		checkOK(t, text, want)
		checkOK(t, "["+text+","+text+" ]", "[ "+want+" "+want+" ]")
		check(t, text+"x", want, api.ErrSyntax, 30)
		for _, more := range []string{"0", "1", "9", "1x", "1\xff"} {
			check(t, text+more, "", api.ErrToken, 30)
			check(t, "[ "+text+more, "[", api.ErrToken, 32)
		}
		check(t, text+"\xff", "", api.ErrUTF, 30)
	}
	for _, more := range []string{".", "e", "E"} { // also of what is no number yet
		checkLast(t, ones+more, "", api.ErrToken)
		check(t, ones[:29]+more, "", api.ErrSyntax, 30)
		check(t, ones[:29]+more+" ", "", api.ErrSyntax, 30)
		check(t, ones[:29]+more+"1", "", api.ErrToken, 30)
	}
	check(t, ones[:29]+"e-", "", api.ErrToken, 30)
	check(t, ones[:28]+"e-", "", api.ErrSyntax, 30)
	check(t, ones[:28]+"e-1", "", api.ErrToken, 30)
	check(t, ones+"-", ones, api.ErrSyntax, 30) // no number goes on so
	check(t, "0"+ones, "0", api.ErrSyntax, 1)
	check(t, ones+ones, "", api.ErrToken, 30)
	checkOK(t, "["+ones[:15]+","+ones[15:]+"]", "[ "+ones[:15]+" "+ones[15:]+" ]")
}

// TestRefusedNumbers asks for numbers that num.Read rejects.
func TestRefusedNumbers(t *testing.T) {
	for _, text := range []string{
		"1e1000", "1e-1000", "-1e1000", "10e999", "0.1e-999", "1e99999999999999999999", strings.Repeat("1", 27) + ".11", "-1." + strings.Repeat("1", 27),
	} {
		check(t, text, "", api.ErrNumber, len(text))
		check(t, "["+text, "[", api.ErrNumber, len(text)+1)
		check(t, "[2,"+text, "[ 2", api.ErrNumber, len(text)+3)
		check(t, `{"a":`+text, `{ "a":`, api.ErrNumber, len(text)+5)
		for _, more := range []string{" ", "\t", ",", "]", "}", "x", "[", "{", `"`, "n", "é", "\xc3"} { // ahead of any other error there
			check(t, text+more, "", api.ErrNumber, len(text))
			check(t, "["+text+more+"]", "[", api.ErrNumber, len(text)+1)
			check(t, "[[[[[["+text+more, "[ [ [ [ [ [", api.ErrNumber, len(text)+6)
		}
		check(t, text+"\xff", "", api.ErrUTF, len(text)) // but for this one
		check(t, "["+text+"\x80", "[", api.ErrUTF, len(text)+1)
	}
	checkOK(t, "[0e1000,1e999,0.1e1000]", "[ 0 1e999 1e999 ]")
}

func TestStrings(t *testing.T) {
	for text, want := range map[string]string{
		"": "", "a": "a", " a\u007f": " a\u007f", "é€\U0001f600": "é€\U0001f600", "[1,{}]:": "[1,{}]:", "null": "null", "12": "12", "'": "'",
		`\"`: `"`, `\\`: `\`, `\/`: "/", "/": "/", `\n`: "\n", `\t`: "\t", `\r`: "\r", `\b`: "\b", `\f`: "\f",
		`\u0000`: "\x00", `\u0041`: "A", `\u00e9`: "é", `\u20AC`: "€", `\uffff`: "\uffff", `\ud7ff`: "\ud7ff", `\ue000`: "\ue000", `\u0022`: `"`,
		`a\\`: `a\`, `\\\"`: `\"`, `\\n`: `\n`, `a\tb\u0063d`: "a\tbcd",
	} {
		q := `"` + text + `"`
		checkOK(t, q, strconv.Quote(want))
		checkOK(t, " "+q+" ", strconv.Quote(want))
		checkOK(t, "["+q+","+q+"]", "[ "+strconv.Quote(want)+" "+strconv.Quote(want)+" ]")
		checkOK(t, "{"+q+":"+q+"}", "{ "+strconv.Quote(want)+": "+strconv.Quote(want)+" }")
		for n := 1; n < len(q); n++ { // not ended
			if utf8.ValidString(q[:n]) {
				checkOpen(t, q[:n], "")
				checkOpen(t, "["+q[:n], "[")
			}
		}
	}
}

// TestLongStrings asks for strings of 48 bytes, and for one character more.
func TestLongStrings(t *testing.T) {
	x := strings.Repeat("x", 49)
	for text, contents := range map[string]string{
		x[:48]: x[:48], x[:46] + "é": x[:46] + "é", x[:46] + `\u00e9`: x[:46] + "é", x[:47] + `\n`: x[:47] + "\n", strings.Repeat(`\"`, 48): strings.Repeat(`"`, 48),
		strings.Repeat(`\u20ac`, 16): strings.Repeat("€", 16),
	} {
		if len(contents) != 48 {
			t.Fatalf("%q: %d bytes", contents, len(contents))
		}
		want := strconv.Quote(contents)
		checkOK(t, `"`+text+`"`, want)
		checkOK(t, `{"`+text+`":["`+text+`"]}`, "{ "+want+": [ "+want+" ] }")
		for _, more := range []string{"x", " ", "]", `\n`, `\"`, `\\`, `\u0041`, "\x7f"} {
			checkLast(t, `"`+text+more, "", api.ErrToken)
			checkLast(t, `{"`+text+more, "{", api.ErrToken)
			checkLast(t, `[1,"`+text+more, "[ 1", api.ErrToken)
		}
		check(t, `"`+text+"é", "", api.ErrToken, 1+len(text)) // at its first byte
		check(t, `"`+text+"\xc3", "", api.ErrToken, 1+len(text))
		check(t, `"`+text+"\xff", "", api.ErrUTF, 1+len(text))
		check(t, `"`+text+`\u0041x`, "", api.ErrToken, 1+len(text)+5)
		checkOpen(t, `"`+text, "")
		checkOpen(t, `"`+text+`\`, "")
		checkOpen(t, `"`+text+`\u004`, "")
	}
	check(t, `"`+x[:47]+`é"`, "", api.ErrToken, 49) // within a character
	check(t, `"`+x[:47]+`\u00e9"`, "", api.ErrToken, 53)
}

func TestEscapes(t *testing.T) {
	for b := range 0x80 {
		text := `"\` + string(rune(b))
		if strings.ContainsRune(`"\/ntrbfu`, rune(b)) {
			checkOpen(t, text, "")
			continue
		}
		checkLast(t, text, "", api.ErrEscape)
	}
	for _, digits := range []string{"", "0", "00", "00e"} {
		for _, b := range []string{"g", "G", "-", " ", `"`, `\`, "\n", "\x00", "u", "é"} {
			check(t, `"\u`+digits+b+`"`, "", api.ErrEscape, 3+len(digits))
			check(t, `{"\u`+digits+b+`"`, "{", api.ErrEscape, 4+len(digits))
		}
		check(t, `"\u`+digits+"\xff", "", api.ErrUTF, 3+len(digits))
		check(t, `"\u`+digits+"\xc3", "", api.ErrEscape, 3+len(digits))
		checkOpen(t, `"\u`+digits, "")
	}
	for _, number := range []string{"d800", "D800", "dbff", "dc00", "dfff", "DFFF", "dA3f"} {
		checkLast(t, `"\u`+number, "", api.ErrEscape)
		check(t, `"\u`+number+`\udc00"`, "", api.ErrEscape, 6)
	}
	for _, text := range []string{`"\x`, `"\'`, `"\0`, `"\N`, `"\U`, "\"\\\n", `"\ `} {
		checkLast(t, text, "", api.ErrEscape)
	}
	for b := range 32 {
		checkLast(t, `"`+string(rune(b)), "", api.ErrSyntax)
		checkLast(t, `["a`+string(rune(b)), "[", api.ErrSyntax)
		checkLast(t, `{"a`+string(rune(b)), "{", api.ErrSyntax)
		checkLast(t, `"\`+string(rune(b)), "", api.ErrEscape)
	}
}

// TestNoCharacters asks for bytes that form no characters.
func TestNoCharacters(t *testing.T) {
	for _, l := range []struct {
		bytes string
		n     int // of them that could begin a character
	}{
		{"\x80", 0}, {"\xff", 0}, {"\xc0\x80", 0}, {"\xc1\xbf", 0}, {"\xf5\x80\x80\x80", 0}, {"\xc3\xc3", 1}, {"\xe0\x80\x80", 1}, {"\xed\xa0\x80", 1},
		{"\xf0\x80\x80\x80", 1}, {"\xf4\x90\x80\x80", 1}, {"\xe2\x82a", 2}, {"\xf0\x9f\x98 ", 3}, {"\xc3\"", 1}, {"\xe2\x82\"", 2}, {"\xe2\\", 1},
	} {
		for before, want := range map[string]string{`"`: "", `"a`: "", `"é`: "", `"\n`: "", `["a","`: `[ "a"`, `{"`: "{", `{"a":"`: `{ "a":`} {
			check(t, before+l.bytes+`"`, want, api.ErrUTF, len(before)+l.n)
		}
	}
	for _, bytes := range []string{"\xc3", "\xe2", "\xe2\x82", "\xf0", "\xf0\x9f", "\xf0\x9f\x98"} { // the text ends within a character
		check(t, `"`+bytes, "", api.ErrUTF, 1+len(bytes))
		check(t, `[1,"a`+bytes, "[ 1", api.ErrUTF, 5+len(bytes))
		check(t, `{"a`+bytes, "{", api.ErrUTF, 3+len(bytes))
		check(t, bytes, "", api.ErrSyntax, 0) // an earlier error
		check(t, "1 "+bytes, "1", api.ErrSyntax, 2)
	}
	check(t, "\xff", "", api.ErrUTF, 0)
	check(t, " \xff", "", api.ErrUTF, 1)
	check(t, "x\xff", "", api.ErrSyntax, 0)
	check(t, "[1\xff", "[", api.ErrUTF, 2) // the number is not reported there
	check(t, "[1,\xff", "[ 1", api.ErrUTF, 3)
	check(t, "tru\xff", "", api.ErrUTF, 3)
	check(t, "null\xff", "null", api.ErrUTF, 4)
	check(t, "[[[[[[\xff", "[ [ [ [ [ [", api.ErrUTF, 6)
	check(t, "[[[[[[[\xff", "[ [ [ [ [ [", api.ErrDepth, 6)
	check(t, "é", "", api.ErrSyntax, 0)
	check(t, "[é", "[", api.ErrSyntax, 1)
	check(t, "1é", "1", api.ErrSyntax, 1)
	check(t, "12\xff", "", api.ErrUTF, 2)
	check(t, "1.\xff", "", api.ErrUTF, 2)
	check(t, "1.\xc3\xff", "", api.ErrSyntax, 2)
}

// TestTwoErrors asks for two errors at one byte.
func TestTwoErrors(t *testing.T) {
	ten, want := fields(10)
	check(t, "{"+ten+`,"k0"`, "{ "+want, api.ErrTwice, len(ten)+5) // which is an eleventh field, too
	check(t, "[[[[[[1e1000[", "[ [ [ [ [ [", api.ErrNumber, 12)
	check(t, "[[[[[[1[", "[ [ [ [ [ [ 1", api.ErrSyntax, 7) // where it may not stand, however deep
	check(t, "[[[[[[][", "[ [ [ [ [ [ ]", api.ErrSyntax, 7)
	check(t, `[[[[[{[`, `[ [ [ [ [ {`, api.ErrSyntax, 6)
	check(t, `[[[[[{"a"[`, `[ [ [ [ [ { "a":`, api.ErrSyntax, 9)
	check(t, "1e1000", "", api.ErrNumber, 6)
	check(t, "[1e1000", "[", api.ErrNumber, 7) // the text is incomplete, too
	check(t, "1e1000]", "", api.ErrNumber, 6)
	check(t, "1e1000\xff", "", api.ErrUTF, 6)
	check(t, `{"a":1,"a`+"\xff", `{ "a": 1`, api.ErrUTF, 9)
	check(t, `"`+strings.Repeat("x", 48)+"\n", "", api.ErrSyntax, 49)
	check(t, `"`+strings.Repeat("x", 48)+`\ud800`, "", api.ErrEscape, 54)
	check(t, `"`+strings.Repeat("x", 48)+"\x80", "", api.ErrUTF, 49)
	check(t, `"`+strings.Repeat("x", 47)+"\xc3\xa9\xff", "", api.ErrToken, 49)
}
