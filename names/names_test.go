package names_test

import (
	"regexp"
	"strings"
	"testing"
	"unicode/utf8"

	"hexapla/names"
	"hexapla/texts"
)

// The grammars of the chapter but for the lengths in bytes. They go through
// characters, so they need texts that consist of such.
var (
	localForm = regexp.MustCompile(`\A[a-zA-Z_][a-zA-Z0-9_.-]*\z`)
	spaceForm = regexp.MustCompile(`\A[^\x00-\x20{}"<>&\\]+\z`)
	fullForm  = regexp.MustCompile(`\A(?:\{([^{}]*)\})?([^{}]*)\z`)
)

func isLocal(text string) bool {
	return localForm.MatchString(text) && len(text) <= 16
}

func isSpace(text string) bool {
	return utf8.ValidString(text) && spaceForm.MatchString(text) && len(text) <= 48
}

// allBytes returns each byte once.
func allBytes() string {
	var list [256]byte
	for b := range list {
		list[b] = byte(b)
	}
	return string(list[:])
}

func TestLocal(t *testing.T) {
	n := strings.Repeat("n", 1000)
	for _, text := range []string{
		"a", "z", "A", "Z", "_", "__", "a0", "a9", "a_", "a-", "a.", "A1-._z", "xmlns", "a..", "_--",
		n[:15], n[:16], "_" + strings.Repeat(".", 15), "Z" + strings.Repeat("9", 15),
	} {
		if !names.Local(text) {
			t.Errorf("%q is refused", text)
		}
	}
	for _, text := range []string{
		"", "0", "9a", "1", "-a", "-", ".a", ".", "..", "-1",
		n[:17], n[:18], n, n[:16] + "é", n[:15] + "é",
		"a b", " a", "a ", "a\n", "a\x00", "a:b", ":a", "{u}a", "{", "a/b", "a@", "a[", "a`", "a{", "a+", "a,", "a\x7f",
		"é", "aé", "éa", "ª", "\u212a", "a\u0300", "а", "a\u0660", "\U0001d41a", // letters and digits of others
		"\xff", "a\xff", "a\x80", "\xe1", "a\xe1", // the last two are á in one byte
	} {
		if names.Local(text) {
			t.Errorf("%q is taken", text)
		}
	}
}

// TestLocalBytes asks every byte first in a local name, and behind every other,
// and in each later place.
func TestLocalBytes(t *testing.T) {
	for text := range texts.Short(allBytes(), 2) {
		if want := isLocal(text); names.Local(text) != want {
			t.Fatalf("%q: %v", text, !want)
		}
	}
	for n := range 17 {
		for b := range 256 {
			text := strings.Repeat("n", n) + string([]byte{byte(b)})
			for _, text := range []string{text, text + "n", text + ".-"} {
				if want := isLocal(text); names.Local(text) != want {
					t.Fatalf("%q: %v", text, !want)
				}
			}
		}
	}
}

func TestSpace(t *testing.T) {
	s := strings.Repeat("s", 1000)
	for _, text := range []string{
		"u", "!", "~", "\x7f", "1", "-", ".", ":", "/", "'", "[a]", "(a)", "a=b;c,d?e#f%20", "http://example.com/a.b",
		"é", "\u0080", "\u00a0", "\u07ff", "\u0800", "\u2028", "€", "\ufeff", "\uffff", "\U00010000", "\U0001f600", "\U0010ffff",
		"aéb", "é€\U0001f600u", "\u00bc\u00be", // each with the last six bits of < or >
		s[:47], s[:48], strings.Repeat("é", 24), strings.Repeat("€", 16), strings.Repeat("\U0001f600", 12), s[:46] + "é",
	} {
		if !names.Space(text) {
			t.Errorf("%q is refused", text)
		}
	}
	for _, text := range []string{
		"", " ", "\x00", "\x1f", "\t", "\n", "a b", " a", "a ", "a\n", "\x00a",
		"{", "}", `"`, "<", ">", "&", `\`, "{u}", "a}", "a{b", `a"`, "a<b", ">a", "a&b;", `a\b`, "é}", "}é",
		s[:49], s, s[:47] + "é", strings.Repeat("é", 25), strings.Repeat("€", 17),
		"\x80", "\xbf", "\xff", "a\xff", "\xffa", "a\x80b", "\xc3", "a\xc3", "\xe2\x82", "\xf0\x9f\x98", s[:47] + "\xc3", s[:48] + "\xff",
		"\xc0\x80", "\xc1\xbf", "\xe0\x80\xbc", "\xed\xa0\x80", "\xed\xbf\xbf", "\xf4\x90\x80\x80", "é\xa9",
	} {
		if names.Space(text) {
			t.Errorf("%q is taken", text)
		}
	}
}

// TestSpaceBytes asks every byte first in a namespace, and behind every other.
func TestSpaceBytes(t *testing.T) {
	for text := range texts.Short(allBytes(), 2) {
		for _, text := range []string{text, text + "u", "u" + text, text + "\xa9"} {
			if want := isSpace(text); names.Space(text) != want {
				t.Fatalf("%q: %v", text, !want)
			}
		}
	}
}

// TestSpaceCharacters asks every character, alone and behind another.
func TestSpaceCharacters(t *testing.T) {
	for r := range utf8.MaxRune + 1 {
		if !utf8.ValidRune(r) {
			continue
		}
		want := r >= 33 && !strings.ContainsRune(`{}"<>&\`, r)
		if names.Space(string(r)) != want || names.Space("é"+string(r)+"u") != want {
			t.Fatalf("%x: %v", r, !want)
		}
	}
}
