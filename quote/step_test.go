package quote_test

import (
	"encoding/json"
	"fmt"
	"strings"
	"testing"
	"unicode/utf8"

	"hexapla/api"
	"hexapla/quote"
	"hexapla/texts"
)

// decode steps through text up to its closing " or its first error. It returns
// the contents up to there, the offset of that byte, or the length of text if
// there is neither, whether the string was closed, and the error.
func decode(text string) (string, int, bool, api.Errno) {
	q := quote.New()
	for i := range len(text) {
		if done, e := q.Step(text[i]); done || e != api.OK {
			return q.Text(), i, done, e
		}
	}
	return q.Text(), len(text), false, api.OK
}

// quoteOf returns a decoder that has processed the bytes of prefix.
func quoteOf(t *testing.T, prefix string) *quote.Quote {
	t.Helper()
	q := quote.New()
	for i := range len(prefix) {
		if _, e := q.Step(prefix[i]); e != api.OK {
			t.Fatalf("%q: %v at %d", prefix, e, i)
		}
	}
	return q
}

// checkDecode holds what a text that is closed by its last byte denotes.
func checkDecode(t *testing.T, text, want string) {
	t.Helper()
	if got, n, done, e := decode(text); got != want || n != len(text)-1 || !done || e != api.OK {
		t.Errorf("%q: %q %d %v %v", text, got, n, done, e)
	}
}

// checkRefused holds that a text is refused with an error at its last byte.
func checkRefused(t *testing.T, text string, want api.Errno) {
	t.Helper()
	if _, n, done, e := decode(text); n != len(text)-1 || done || e != want {
		t.Errorf("%q: %d %v %v, not %v", text, n, done, e, want)
	}
}

func TestDecode(t *testing.T) {
	for _, l := range []struct{ text, want string }{
		{`"`, ""}, {`a"`, "a"}, {`abc def"`, "abc def"}, {`'/{}[],:"`, "'/{}[],:"},
		{" \x7f\"", " \x7f"}, // the least that need no escape, and one past the letters
		{"é\U0001f600\"", "é\U0001f600"},
		{`a\u00e9"`, "aé"}, {`\n\/"`, "\n/"},
		{`\"\\\/\n\t\r\b\f"`, "\"\\/\n\t\r\b\f"},
		{`\""`, `"`}, {`\\"`, `\`}, {`\\n"`, `\n`}, {`\\\n"`, "\\\n"}, {`\\\""`, `\"`}, {`\\u0041"`, `\u0041`},
		{`a\tb\tc"`, "a\tb\tc"}, {`u\u0075u"`, "uuu"}, {`\u00411"`, "A1"}, {`\u0041\u0042"`, "AB"},
		{`\u0022"`, `"`}, {`\u005c"`, `\`}, {`\u005Cn"`, `\n`}, {`\u002F"`, "/"},
		{`é\u00e9\u00E9"`, "ééé"}, {`a\u0061"`, "aa"}, {`\n\u000a\u000A"`, "\n\n\n"}, // written both ways
	} {
		checkDecode(t, l.text, l.want)
	}
}

// TestLetters asks every byte behind a \.
func TestLetters(t *testing.T) {
	want := map[int]string{
		'"': "\"", '\\': "\\", '/': "/", 'n': "\x0a", 't': "\x09", 'r': "\x0d", 'b': "\x08", 'f': "\x0c",
	}
	for b := range 256 {
		text := `x\` + string([]byte{byte(b)})
		if char, is := want[b]; is {
			checkDecode(t, text+`"`, "x"+char)
			checkDecode(t, text+`y"`, "x"+char+"y")
		} else if b == 'u' {
			checkDecode(t, text+`0041"`, "xA")
		} else {
			checkRefused(t, text, api.ErrEscape)
		}
	}
}

// TestPlain asks every byte that is not within an escape.
func TestPlain(t *testing.T) {
	for _, prefix := range []string{"", "x", "é", `\n`, `\u0041`, `\\`, `\"`, strings.Repeat("x", 47)} {
		before := quoteOf(t, prefix).Text()
		for b := range 256 {
			text := prefix + string([]byte{byte(b)})
			switch {
			case b < 32:
				checkRefused(t, text, api.ErrSyntax)
			case b == '"':
				checkDecode(t, text, before)
			case b == '\\':
				if q := quoteOf(t, text); q.Text() != before {
					t.Errorf("%q: %q", text, q.Text())
				}
			default: // the bytes from 128 on too, of which none needs to form a character
				checkDecode(t, text+`"`, before+string([]byte{byte(b)}))
			}
		}
	}
}

func TestBytesOfNoCharacters(t *testing.T) {
	for _, contents := range []string{
		"\x80", "\xff", "\xc3", "\xc3\xc3", "\xc0\x80", "\xed\xa0\x80", "\xf4\x90\x80\x80", "a\xe2\x82b", "\xa9\xc3",
	} {
		checkDecode(t, contents+`"`, contents)
		checkDecode(t, `\u00e9`+contents+`\n"`, "é"+contents+"\n")
	}
}

// TestNumbers asks each number that four digits give, in both cases of them.
func TestNumbers(t *testing.T) {
	for r := range 0x10000 {
		for _, form := range []string{`\u%04x`, `\u%04X`} {
			text := fmt.Sprintf(form, r)
			if 0xD800 <= r && r <= 0xDFFF {
				checkRefused(t, text, api.ErrEscape)
			} else {
				checkDecode(t, text+`"`, string(rune(r)))
			}
		}
	}
}

func TestNumberEdges(t *testing.T) {
	for _, l := range []struct{ text, want string }{
		{`\u0000`, "\x00"}, {`\u0001`, "\x01"}, {`\u001f`, "\x1f"}, {`\u007F`, "\x7f"}, // one byte
		{`\u0080`, "\xc2\x80"}, {`\u07ff`, "\xdf\xbf"}, // two
		{`\u0800`, "\xe0\xa0\x80"}, {`\ud7ff`, "\xed\x9f\xbf"}, {`\uD7FF`, "\xed\x9f\xbf"}, // three
		{`\ue000`, "\xee\x80\x80"}, {`\uE000`, "\xee\x80\x80"}, {`\uFfFf`, "\xef\xbf\xbf"},
		{`\uabCD`, "\xea\xaf\x8d"}, {`\u0000\u0000`, "\x00\x00"},
	} {
		checkDecode(t, l.text+`"`, l.want)
	}
	for _, text := range []string{
		`\ud800`, `\uD800`, `\udbff`, `\udc00`, `\udfff`, `\uDFFF`, `a\ud83d`, `\u0041\ud800`,
	} {
		checkRefused(t, text, api.ErrEscape)
	}
}

// TestDigits asks every byte in each of the four places behind \u, and holds
// that none of them but the last one shows in the contents.
func TestDigits(t *testing.T) {
	for n := range 4 {
		prefix := `x\u` + "0041"[:n]
		if q := quoteOf(t, prefix); q.Text() != "x" {
			t.Errorf("%q: %q", prefix, q.Text())
		}
		for b := range 256 {
			text := prefix + string([]byte{byte(b)})
			isDigit := strings.ContainsRune("0123456789abcdefABCDEF", rune(b))
			if !isDigit {
				checkRefused(t, text, api.ErrEscape)
			} else if _, _, done, e := decode(text); done || e != api.OK {
				t.Errorf("%q: %v %v", text, done, e)
			}
		}
	}
}

// TestControlBytes asks the bytes below 32 where an escape is open: they are
// errors of the escape there.
func TestControlBytes(t *testing.T) {
	for b := range byte(32) {
		last := string([]byte{b})
		for _, prefix := range []string{`\`, `\u`, `\u0`, `\u00`, `\u004`, `a\`, `\n\`} {
			checkRefused(t, prefix+last, api.ErrEscape)
		}
		for _, prefix := range []string{"", "a", `\n`, `\u0041`, strings.Repeat("x", 48)} {
			checkRefused(t, prefix+last, api.ErrSyntax)
		}
	}
}

// TestClosingInEscape asks a " where an escape is open.
func TestClosingInEscape(t *testing.T) {
	for _, text := range []string{`\u"`, `\u0"`, `\u00"`, `\u004"`} {
		checkRefused(t, text, api.ErrEscape)
	}
}

func TestAfterClosing(t *testing.T) {
	for _, text := range []string{`"`, `a"`, `\u00e9"`, `\""`, `\\"`, strings.Repeat("x", 48) + `"`} {
		for b := range 256 {
			q := quoteOf(t, text)
			if done, e := q.Step(byte(b)); done || e != api.ErrSyntax {
				t.Errorf("%q, %x: %v %v", text, b, done, e)
			}
		}
	}
}

func TestTooLong(t *testing.T) {
	x := strings.Repeat("x", 49)
	for _, text := range []string{
		x[:48], x[:46] + "é", x[:46] + `\u00e9`, x[:45] + `\u20ac`, x[:47] + `\n`, x[:47] + `\u0041`, x[:47] + `\"`,
		x[:46] + "\xff\xff", strings.Repeat(`\n`, 48), strings.Repeat(`\u0000`, 48), strings.Repeat(`\uffff`, 16), `\u00e9` + x[:46],
	} {
		if q := quoteOf(t, text); len(q.Text()) != 48 {
			t.Errorf("%q: %d bytes", text, len(q.Text()))
		}
		got, n, done, e := decode(text + `"`)
		if len(got) != 48 || n != len(text) || !done || e != api.OK {
			t.Errorf("%q: %q %d %v %v", text, got, n, done, e)
		}
		for _, more := range []string{
			"x", "\x7f", "\x80", "\xff", `\"`, `\\`, `\/`, `\n`, `\t`, `\r`, `\b`, `\f`, `\u0000`, `\u0041`, `\u00e9`, `\uffff`,
		} {
			checkRefused(t, text+more, api.ErrToken)
		}
	}
}

// TestTooLongWithin passes the limit between the bytes of one character.
func TestTooLongWithin(t *testing.T) {
	x := strings.Repeat("x", 48)
	for _, text := range []string{
		x[:47] + `\u0080`, x[:47] + `\u00e9`, x[:47] + `\u07ff`, x[:47] + `\u0800`, x[:46] + `\u0800`, x[:46] + `\uFFFF`, x[:47] + `\uffff`,
		x[:47] + "\xc3\xa9", x[:46] + "\xe2\x82\xac", x[:45] + "\xf0\x9f\x98\x80",
	} {
		checkRefused(t, text, api.ErrToken)
	}
}

// TestTooLongIsLast asks what breaks another rule where the contents are full.
func TestTooLongIsLast(t *testing.T) {
	x := strings.Repeat("x", 48)
	for _, l := range []struct {
		text string
		want api.Errno
	}{
		{x + "\n", api.ErrSyntax}, {x + "\x00", api.ErrSyntax},
		{x + `\x`, api.ErrEscape}, {x + "\\\n", api.ErrEscape},
		{x + `\u"`, api.ErrEscape}, {x + `\u00g`, api.ErrEscape}, {x + `\u004G`, api.ErrEscape},
		{x + `\ud800`, api.ErrEscape}, {x + `\uDFFF`, api.ErrEscape}, {x[:46] + `\udc00`, api.ErrEscape},
	} {
		checkRefused(t, l.text, l.want)
	}
}

func TestTextSoFar(t *testing.T) {
	q := quote.New()
	for i, l := range []struct {
		b    byte
		want string
	}{
		{'a', "a"}, {0xC3, "a\xc3"}, {0xA9, "aé"}, {'\\', "aé"}, {'n', "aé\n"},
		{'\\', "aé\n"}, {'u', "aé\n"}, {'2', "aé\n"}, {'0', "aé\n"}, {'a', "aé\n"}, {'C', "aé\n€"}, {'"', "aé\n€"},
	} {
		if done, e := q.Step(l.b); done != (l.b == '"') || e != api.OK || q.Text() != l.want {
			t.Errorf("step %d: %v %v %q", i, done, e, q.Text())
		}
	}
	if quote.New().Text() != "" {
		t.Error("a new decoder has contents")
	}
}

func TestTextIsKept(t *testing.T) {
	q := quoteOf(t, "ab")
	first := q.Text()
	for _, b := range []byte("cdefghijklmnop") {
		q.Step(b)
	}
	if first != "ab" || q.Text() != "abcdefghijklmnop" || q.Text() != q.Text() {
		t.Error(first, q.Text())
	}
}

func TestQuotesAreIndependent(t *testing.T) {
	a, b := quoteOf(t, `a\u00`), quoteOf(t, "b")
	if done, e := b.Step('4'); done || e != api.OK || b.Text() != "b4" {
		t.Error(done, e, b.Text())
	}
	if done, e := b.Step('"'); !done || e != api.OK {
		t.Error(done, e)
	}
	for _, digit := range []byte("41") {
		if done, e := a.Step(digit); done || e != api.OK {
			t.Error(done, e)
		}
	}
	if a.Text() != "aA" || b.Text() != "b4" {
		t.Error(a.Text(), b.Text())
	}
}

// TestAfterErrors goes on behind an error: all that is promised is an end.
func TestAfterErrors(t *testing.T) {
	for _, text := range []string{"\n", `\x`, `\uz`, `\u000z`, `\ud800`, `x"x`, strings.Repeat("x", 49), strings.Repeat("x", 48) + `\u00e9`} {
		q := quote.New()
		for i := range len(text) {
			q.Step(text[i])
		}
		for range 3 {
			for b := range 256 {
				q.Step(byte(b))
			}
			q.Text()
		}
	}
}

// TestDecodeAll holds short texts against a reader of JSON, whose strings are
// these but for the length, the surrogates and bytes that form no characters. No
// blanks are among the bytes, as it takes them behind a string.
func TestDecodeAll(t *testing.T) {
	for text := range texts.Short("\"\\un0aF/\x1f\x7f", 6) {
		var want string
		wantDone := json.Unmarshal([]byte(`"`+text), &want) == nil
		got, n, done, e := decode(text)
		if closed := done && n == len(text)-1; closed != wantDone || closed && (got != want || e != api.OK) {
			t.Fatalf("%q: %q %d %v %v, not %q %v", text, got, n, done, e, want, wantDone)
		}
	}
}

// TestDecodeBegins holds where a text is refused against a reader of JSON: at
// the byte with which none that it takes begins.
func TestDecodeBegins(t *testing.T) {
	for text := range texts.Short("\"\\un0c\x1f\xc3\xa9", 5) {
		begins := false
		for _, end := range []string{"", `"`, `n"`, `0"`, `00"`, `000"`, `0000"`} {
			begins = begins || json.Valid([]byte(`"`+text+end))
		}
		_, n, _, e := decode(text)
		goesOn := e == api.OK && n >= len(text)-1 // to the end, or closed by the last byte
		if utf8.ValidString(text) && goesOn != begins {
			t.Fatalf("%q: %d %v, begins %v", text, n, e, begins)
		}
	}
}
