package quote_test

import (
	"encoding/json"
	"fmt"
	"strings"
	"testing"
	"unicode/utf8"

	"hexapla/api"
	"hexapla/quote"
	"hexapla/texts"
)

func TestPrint(t *testing.T) {
	for _, l := range []struct{ text, want string }{
		{"", `""`}, {"a", `"a"`}, {"abc def", `"abc def"`}, {"'/{}", `"'/{}"`},
		{"a\"\n\x01", `"a\"\n\u0001"`},
		{`"`, `"\""`}, {`\`, `"\\"`}, {`\n`, `"\\n"`}, {`\"`, `"\\\""`}, {`\u0041`, `"\\u0041"`},
		{"\n\t\r", `"\n\t\r"`}, {"\b\f", `"\u0008\u000c"`}, {"/", `"/"`},
		{"\x00\x1a\x1f \x7f", "\"\\u0000\\u001a\\u001f \x7f\""},
		{"é\u0080\u2028\ufeff\U0001f600", "\"é\u0080\u2028\ufeff\U0001f600\""},
		{strings.Repeat("x", 48), `"` + strings.Repeat("x", 48) + `"`},
		{strings.Repeat("é", 24), `"` + strings.Repeat("é", 24) + `"`},
		{strings.Repeat("\x00", 48), `"` + strings.Repeat(`\u0000`, 48) + `"`}, // the contents count, not what is printed
		{strings.Repeat(`"`, 48), `"` + strings.Repeat(`\"`, 48) + `"`},
	} {
		if got, e := quote.Print(l.text); got != l.want || e != api.OK {
			t.Errorf("%q: %s %v", l.text, got, e)
		}
	}
}

// TestPrintCharacters prints each character between two others.
func TestPrintCharacters(t *testing.T) {
	short := map[rune]string{'"': `\"`, '\\': `\\`, '\n': `\n`, '\t': `\t`, '\r': `\r`}
	for r := range utf8.MaxRune + 1 {
		if !utf8.ValidRune(r) {
			continue
		}
		want, is := short[r]
		if !is && r < 32 {
			want = fmt.Sprintf(`\u%04x`, r)
		} else if !is {
			want = string(r)
		}
		if got, e := quote.Print("a" + string(r) + "1"); got != `"a`+want+`1"` || e != api.OK {
			t.Fatalf("%x: %s %v", r, got, e)
		}
	}
}

func TestPrintRefused(t *testing.T) {
	x := strings.Repeat("x", 1000)
	for _, l := range []struct {
		text string
		want api.Errno
	}{
		{"\x80", api.ErrUTF}, {"\xff", api.ErrUTF}, {"a\xffb", api.ErrUTF}, {"\xc3", api.ErrUTF}, {"ab\xe2\x82", api.ErrUTF},
		{"\xc0\x80", api.ErrUTF}, {"\xed\xa0\x80", api.ErrUTF}, {"\xed\xbf\xbf", api.ErrUTF}, {"\xf4\x90\x80\x80", api.ErrUTF},
		{x[:47] + "\xc3", api.ErrUTF},
		{x[:49], api.ErrToken}, {x, api.ErrToken}, {x[:47] + "é", api.ErrToken}, {strings.Repeat("\n", 49), api.ErrToken},
		// Both at once, on either side of the limit.
		{x[:48] + "\xff", api.ErrUTF}, {x[:48] + "\xc3", api.ErrUTF}, {"\xff" + x, api.ErrUTF}, {x + "\xff", api.ErrUTF}, {x + "\xf0\x9f\x98", api.ErrUTF},
	} {
		if got, e := quote.Print(l.text); got != "" || e != l.want {
			t.Errorf("%q: %q %v, not %v", l.text, got, e, l.want)
		}
	}
}

// checkBack decodes what is printed of contents.
func checkBack(t *testing.T, contents string) {
	t.Helper()
	printed, e := quote.Print(contents)
	if e != api.OK || printed[0] != '"' {
		t.Fatalf("%q: %q %v", contents, printed, e)
	}
	if got, n, done, e := decode(printed[1:]); got != contents || n != len(printed)-2 || !done || e != api.OK {
		t.Fatalf("%q: %q is %q %d %v %v", contents, printed, got, n, done, e)
	}
}

// TestPrintDecode goes from contents to what is printed of them, and back.
func TestPrintDecode(t *testing.T) {
	for r := range utf8.MaxRune + 1 {
		if utf8.ValidRune(r) {
			checkBack(t, string(r))
		}
	}
	for _, char := range []string{"x", "\"", "\\", "\n", "\b", "\x00", "é", "€", "\U0001f600"} {
		for n := range 48/len(char) + 1 {
			checkBack(t, strings.Repeat(char, n))
		}
	}
}

// TestPrintDecodeAll does so with short texts, and holds what is printed
// against a reader of JSON.
func TestPrintDecodeAll(t *testing.T) {
	for text := range texts.Short("\"\\/un0\n\b\x1f\xc3\xa9", 4) {
		printed, e := quote.Print(text)
		if !utf8.ValidString(text) {
			if printed != "" || e != api.ErrUTF {
				t.Fatalf("%q: %q %v", text, printed, e)
			}
			continue
		}
		checkBack(t, text)
		var read string
		if err := json.Unmarshal([]byte(printed), &read); err != nil || read != text {
			t.Fatalf("%q: %q is read as %q, %v", text, printed, read, err)
		}
	}
}
