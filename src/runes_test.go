package src_test

import (
	"math"
	"slices"
	"testing"
	"unicode/utf8"

	"hexapla/src"
	"hexapla/texts"
)

func TestRunes(t *testing.T) {
	for _, l := range []struct {
		text string
		want []int
	}{
		{"", nil},
		{"a", []int{97}},
		{"\x00", []int{0}},
		{"\u00e9", []int{233}},
		{"\u00e9\U0001f600", []int{233, 0x1F600}},
		{"a\nb", []int{97, 10, 98}},
		{"\x7f\u0080\u07ff\u0800", []int{0x7F, 0x80, 0x7FF, 0x800}},
		{"\ud7ff\ue000\uffff\U00010000\U0010ffff", []int{0xD7FF, 0xE000, 0xFFFF, 0x10000, 0x10FFFF}},
	} {
		if got, ok := src.Runes(l.text); !ok || !slices.Equal(got, l.want) {
			t.Errorf("%q: %x %v", l.text, got, ok)
		}
	}
}

func TestRunesRefused(t *testing.T) {
	for _, text := range []string{
		"\x80", "\xbf", "\xff", "a\xff", "a\xffb", "\xc3", "ab\xc3", "\xe2\x82", "\xf0\x90\x80",
		"\xc0\x80", "\xc1\xbf", "\xe0\x9f\xbf", "\xf0\x8f\xbf\xbf", // too long
		"\xed\xa0\x80", "\xed\xbf\xbf", // no characters
		"\xf4\x90\x80\x80", "\xf5\x80\x80\x80", // past the last
		"\u00e9\x80", "\xc3\xc3\xa9",
	} {
		if got, ok := src.Runes(text); ok || got != nil {
			t.Errorf("% x: %x %v", text, got, ok)
		}
	}
}

func TestRunesAreNew(t *testing.T) {
	first, _ := src.Runes("ab")
	first[0] = 7
	if again, ok := src.Runes("ab"); !ok || !slices.Equal(again, []int{97, 98}) {
		t.Error("a result shows what was written into an earlier one:", again, ok)
	}
}

func TestPut(t *testing.T) {
	for _, l := range []struct {
		r    int
		want string
	}{
		{0, "\x00"}, {97, "a"}, {0x7F, "\x7f"},
		{0x80, "\xc2\x80"}, {233, "\xc3\xa9"}, {0x7FF, "\xdf\xbf"},
		{0x800, "\xe0\xa0\x80"}, {0x20AC, "\xe2\x82\xac"}, {0xD7FF, "\xed\x9f\xbf"},
		{0xE000, "\xee\x80\x80"}, {0xFFFD, "\xef\xbf\xbd"}, {0xFFFF, "\xef\xbf\xbf"},
		{0x10000, "\xf0\x90\x80\x80"}, {0x1F600, "\xf0\x9f\x98\x80"}, {0x10FFFF, "\xf4\x8f\xbf\xbf"},
	} {
		if got, ok := src.Put(l.r); !ok || got != l.want {
			t.Errorf("%x: % x %v", l.r, got, ok)
		}
	}
}

func TestPutRefused(t *testing.T) {
	for _, r := range []int{
		-1, -97, math.MinInt, math.MaxInt, 0xD800, 0xDBFF, 0xDC00, 0xDFFF, 0x110000, 0x1FFFFF,
		math.MaxInt32, math.MinInt32, math.MaxUint32 + 1 + 97, // 97 if cut to 32 bits
	} {
		if got, ok := src.Put(r); ok || got != "" {
			t.Errorf("%x: % x %v", r, got, ok)
		}
	}
}

// TestPutRunes goes from each number to its bytes and back.
func TestPutRunes(t *testing.T) {
	for r := -0x100; r < 0x110100; r++ {
		text, ok := src.Put(r)
		if is := 0 <= r && r <= 0x10FFFF && !(0xD800 <= r && r <= 0xDFFF); ok != is {
			t.Fatalf("Put(%x): %v", r, ok)
		}
		if !ok {
			continue
		}
		if text != string(rune(r)) {
			t.Fatalf("Put(%x): % x", r, text)
		}
		if back, ok := src.Runes(text); !ok || !slices.Equal(back, []int{r}) {
			t.Fatalf("Runes(Put(%x)): %x %v", r, back, ok)
		}
	}
}

// TestRunesPut goes from each text of some bytes to its numbers and back, and
// holds what is refused against the library.
func TestRunesPut(t *testing.T) {
	bytes := []byte{
		0, 'a', 0x7F, 0x80, 0x8F, 0x90, 0x9F, 0xA0, 0xBF, 0xC0, 0xC1, 0xC2, 0xDF,
		0xE0, 0xE1, 0xEC, 0xED, 0xEE, 0xEF, 0xF0, 0xF1, 0xF3, 0xF4, 0xF5, 0xFF,
	}
	for text := range texts.Short(string(bytes), 4) {
		list, ok := src.Runes(text)
		if ok != utf8.ValidString(text) {
			t.Fatalf("Runes(% x): %v", text, ok)
		}
		if !ok {
			continue
		}
		back := ""
		for _, r := range list {
			one, ok := src.Put(r)
			if !ok {
				t.Fatalf("Runes(% x): %x is no character", text, r)
			}
			back += one
		}
		if back != text {
			t.Fatalf("% x comes back as % x", text, back)
		}
	}
}
