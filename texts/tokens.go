package texts

import (
	"strconv"
	"strings"

	"hexapla/api"
)

// Pair is a text and what it stands for.
type Pair struct{ Text, Want string }

// Wrong is a text whose last byte is the one at which an error is met.
type Wrong struct {
	Text string
	Err  api.Errno
}

// Numbers returns numbers and their normal forms.
func Numbers() []Pair {
	return []Pair{
		{"0", "0"}, {"-0", "0"}, {"7", "7"}, {"10", "1e1"}, {"-0.50", "-5e-1"}, {"1e3", "1e3"}, {"1E+03", "1e3"}, {"0e7", "0"}, {"1.50", "15e-1"}, {"15e-1", "15e-1"},
		{"0.15E1", "15e-1"}, {"1e999", "1e999"}, {"1e-999", "1e-999"}, {"123456789", "123456789"}, {"1e0", "1"}, {"-12.50e+3", "-125e2"},
	}
}

// LongNumbers returns numbers of 30 bytes, which is all that they may have, and
// their normal forms.
func LongNumbers() []Pair {
	ones, zeros := strings.Repeat("1", 30), strings.Repeat("0", 30)
	return []Pair{
		{ones, ones}, {"-" + ones[:29], "-" + ones[:29]}, {"9" + zeros[:29], "9e29"}, {"0." + zeros[:27] + "1", "1e-28"}, {ones[:25] + ".0e-0", ones[:25]},
		{"1e" + zeros[:27] + "2", "1e2"}, {"1" + zeros[:25] + "e-25", "1"}, {"0." + zeros[:28], "0"},
	}
}

// TooLongNumbers returns texts of 31 bytes that begin longer numbers, of which
// some are none yet. The error is met at the last byte.
func TooLongNumbers() []string {
	var list []string
	for _, long := range LongNumbers() {
		list = append(list, long.Text+"0", long.Text+"1", long.Text+"9")
	}
	ones := strings.Repeat("1", 30)
	return append(list, ones+".", ones+"e", ones+"E", ones[:29]+".1", ones[:29]+"e1", ones[:29]+"E1", ones[:29]+"e-", ones[:28]+"e-1")
}

// OpenNumbers returns what numbers begin with, and what is none by itself.
func OpenNumbers() []string {
	ones := strings.Repeat("1", 30)
	return []string{"-", "1.", "-0.", "1e", "1E", "1e+", "1e-", "1.5e", "0.0E-", "12.", ones[:29] + ".", ones[:29] + "e", ones[:29] + "E", ones[:28] + "e-"}
}

// RefusedNumbers returns numbers of at most 30 bytes that num.Read refuses.
func RefusedNumbers() []string {
	ones := strings.Repeat("1", 30)
	return []string{"1e1000", "1e-1000", "-1e1000", "10e999", "0.1e-999", "1e99999999999999999999", ones[:27] + ".11", "-1." + ones[:27]}
}

// Quoted returns quoted strings and their contents.
func Quoted() []Pair {
	list := []Pair{
		{"", ""}, {"a", "a"}, {" a\u007f", " a\u007f"}, {"é€\U0001f600", "é€\U0001f600"}, {"[1,{}]:", "[1,{}]:"}, {"#(#<@);", "#(#<@);"}, {"null", "null"}, {"12", "12"}, {"'", "'"},
		{`\"`, `"`}, {`\\`, `\`}, {`\/`, "/"}, {"/", "/"}, {`\n`, "\n"}, {`\t`, "\t"}, {`\r`, "\r"}, {`\b`, "\b"}, {`\f`, "\f"},
		{`\u0000`, "\x00"}, {`\u0041`, "A"}, {`\u00e9`, "é"}, {`\u20AC`, "€"}, {`\uffff`, "\uffff"}, {`\ud7ff`, "\ud7ff"}, {`\ue000`, "\ue000"}, {`\u0022`, `"`},
		{`a\\`, `a\`}, {`\\\"`, `\"`}, {`\\n`, `\n`}, {`a\tb\u0063d`, "a\tbcd"},
	}
	for i := range list {
		list[i].Text = `"` + list[i].Text + `"`
	}
	return list
}

// LongQuoted returns quoted strings whose contents are 48 bytes, which is all
// that they may have.
func LongQuoted() []Pair {
	x := strings.Repeat("x", 48)
	return []Pair{
		{`"` + x + `"`, x}, {`"` + x[:46] + `é"`, x[:46] + "é"}, {`"` + x[:46] + `\u00e9"`, x[:46] + "é"}, {`"` + x[:47] + `\n"`, x[:47] + "\n"},
		{`"` + strings.Repeat(`\"`, 48) + `"`, strings.Repeat(`"`, 48)}, {`"` + strings.Repeat(`\u20ac`, 16) + `"`, strings.Repeat("€", 16)},
	}
}

// Printed returns texts and the quoted strings that are printed of them.
func Printed() []Pair {
	list := []Pair{
		{"", ""}, {"x", "x"}, {"a b", "a b"}, {"  ", "  "}, {"null", "null"}, {"true", "true"}, {"12", "12"}, {"#n", "#n"}, {"[1,{}]:", "[1,{}]:"}, {"#(#<@);", "#(#<@);"}, {"'/", "'/"},
		{"é€\U0001f600", "é€\U0001f600"}, {"\x7f\u0080", "\x7f\u0080"}, {`"`, `\"`}, {`\`, `\\`}, {"\n\t\r", `\n\t\r`}, {"\b\f", `\u0008\u000c`}, {"\x00\x01\x1f", `\u0000\u0001\u001f`},
		{"a\"b\n", `a\"b\n`}, {`","`, `\",\"`}, {`" "`, `\" \"`}, {`\"`, `\\\"`}, {`\n`, `\\n`}, {`\u0041`, `\\u0041`},
		{strings.Repeat("x", 48), strings.Repeat("x", 48)}, {strings.Repeat("é", 24), strings.Repeat("é", 24)}, {strings.Repeat("\x01", 48), strings.Repeat(`\u0001`, 48)},
	}
	for i := range list {
		list[i].Want = `"` + list[i].Want + `"`
	}
	return list
}

// OpenQuoted returns the beginnings of quoted strings that lack at least a byte,
// but none that ends within a character.
func OpenQuoted() []string {
	var list []string
	for _, whole := range append(Quoted(), LongQuoted()...) {
		for n := max(1, len(whole.Text)-16); n < len(whole.Text); n++ {
			if b := whole.Text[n]; b < 0x80 || b >= 0xC0 { // the first byte of a character
				list = append(list, whole.Text[:n])
			}
		}
	}
	return list
}

// WrongQuoted returns the beginnings of what are no quoted strings.
func WrongQuoted() []Wrong {
	var list []Wrong
	for b := range byte(0x80) {
		if char := string([]byte{b}); !strings.Contains(`"\/ntrbfu`, char) {
			list = append(list, Wrong{`"\` + char, api.ErrEscape})
		}
	}
	for b := range byte(32) {
		char := string([]byte{b})
		list = append(list, Wrong{`"` + char, api.ErrSyntax}, Wrong{`"a` + char, api.ErrSyntax}, Wrong{`"\u00` + char, api.ErrEscape})
	}
	for _, digits := range []string{"", "0", "00", "00e"} {
		for _, more := range []string{"g", "G", "-", " ", `"`, `\`, "u", "\xc3"} {
			list = append(list, Wrong{`"\u` + digits + more, api.ErrEscape})
		}
		list = append(list, Wrong{`"\u` + digits + "\xff", api.ErrUTF})
	}
	for _, number := range []string{"d800", "D800", "dbff", "dc00", "dfff", "DFFF", "dA3f"} { // of no characters
		list = append(list, Wrong{`"\u` + number, api.ErrEscape})
	}
	return append(append(list, tooLongQuoted()...), noCharacters()...)
}

// tooLongQuoted returns what is longer than a quoted string may be.
func tooLongQuoted() []Wrong {
	var list []Wrong
	for _, long := range LongQuoted() {
		text := strings.TrimSuffix(long.Text, `"`)
		for _, more := range []string{"x", " ", ")", `\n`, `\"`, `\\`, `\u0041`, "\x7f", "\xc3"} {
			list = append(list, Wrong{text + more, api.ErrToken})
		}
		list = append(list, Wrong{text + "\n", api.ErrSyntax}, Wrong{text + `\ud800`, api.ErrEscape}, Wrong{text + "\xff", api.ErrUTF}, Wrong{text + "\x80", api.ErrUTF})
	}
	x := strings.Repeat("x", 47) // too long within a character
	return append(list, Wrong{`"` + x + "\xc3\xa9", api.ErrToken}, Wrong{`"` + x + `\u00e9`, api.ErrToken})
}

// noCharacters returns quoted strings with bytes that form no characters.
func noCharacters() []Wrong {
	var list []Wrong
	for _, bytes := range []string{
		"\x80", "\xff", "\xc0", "\xc1", "\xf5", "\xc3\xc3", "\xe0\x80", "\xed\xa0", "\xf0\x80", "\xf4\x90", "\xe2\x82a", "\xf0\x9f\x98 ", "\xc3\"", "\xe2\x82\"", "\xe2\\",
	} {
		for _, before := range []string{"", "a", "é", `\n`} {
			list = append(list, Wrong{`"` + before + bytes, api.ErrUTF})
		}
	}
	return list
}

// Spoiled returns text with a change of one byte, or one of bytes more. What is
// changed is for pick to say: it gives a number from 0 up to what it is given,
// but for that.
func Spoiled(text, bytes string, pick func(n int) int) string {
	i, k := pick(len(text)+1), pick(len(bytes))
	more, behind := bytes[k:k+1], min(i+1, len(text))
	switch pick(4) {
	case 0:
		return text[:i]
	case 1:
		return text[:i] + more + text[i:]
	case 2:
		return text[:i] + text[behind:]
	}
	return text[:i] + more + text[behind:]
}

// CutCharacters returns the beginnings of characters.
func CutCharacters() []string {
	return []string{"\xc3", "\xe2", "\xe2\x82", "\xf0", "\xf0\x9f", "\xf0\x9f\x98"}
}

// NoNames returns texts that are no local names.
func NoNames() []string {
	return []string{
		"", "1", "-", ".", "-a", ".a", "a b", " a", "a ", "a\n", "a\x00", "a:b", "a:", ":a", "{u}a", "*a", "&a", "a;", "é", "aé", "\xff", "a\xff",
		strings.Repeat("n", 17), strings.Repeat("n", 200), strings.Repeat("n", 201), strings.Repeat("n", 100000),
	}
}

// RandomNumber returns a number, or now and then one that is too long or that
// num.Read refuses. For pick see Spoiled.
func RandomNumber(pick func(n int) int) string {
	return []string{"0", "-1", "12.50", "1e3", "-0.1E-2", "9e9", strings.Repeat("7", 28+pick(4)), "1e" + strconv.Itoa(995+pick(8))}[pick(8)]
}

// RandomQuoted returns a quoted string of n parts, which now and then is too
// long. For pick see Spoiled.
func RandomQuoted(n int, pick func(n int) int) string {
	out := `"`
	for range n {
		out += []string{"a", "é", "€", `\n`, `\u00e9`, `\"`, "\U0001f600", strings.Repeat("x", 30+pick(20)), " ", "[,:]", "#(;)"}[pick(11)]
	}
	return out + `"`
}
