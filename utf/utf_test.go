package utf_test

import (
	"strings"
	"testing"
	"unicode/utf8"

	"hexapla/texts"
	"hexapla/utf"
)

func TestWhole(t *testing.T) {
	for text := range texts.Short("a\x00\x7f\x80\x9f\xa0\xbf\xc0\xc3\xe0\xe2\xed\xf0\xf4\xff", 5) {
		if want := utf8.ValidString(text); utf.Whole(text) != want {
			t.Fatalf("%q: %v", text, !want)
		}
	}
}

// TestWholeLong holds that the last byte of a long text counts like the first.
func TestWholeLong(t *testing.T) {
	long := strings.Repeat("aé€\U0001f600", 10000)
	for _, bytes := range append(texts.CutCharacters(), "", "a", "é", "\x80", "\xff") {
		for _, text := range []string{long + bytes, bytes + long, long + bytes + long} {
			if want := utf8.ValidString(bytes); utf.Whole(text) != want {
				t.Errorf("%q: %v", bytes, !want)
			}
		}
	}
}
