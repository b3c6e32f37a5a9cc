package src_test

import (
	"testing"
	"unicode/utf8"

	"hexapla/src"
)

// scanOf returns a Scan that has accepted the bytes of prefix.
func scanOf(t *testing.T, prefix string) *src.Scan {
	t.Helper()
	s := src.New()
	for i := range len(prefix) {
		if !s.Step(prefix[i]) {
			t.Fatalf("% x is refused at %d", prefix, i)
		}
	}
	return s
}

// openPrefixes returns "" and every beginning of a character that lacks bytes,
// as the library's encoder writes the characters.
func openPrefixes() map[string]bool {
	open := map[string]bool{"": true}
	for r := range utf8.MaxRune + 1 {
		if !utf8.ValidRune(rune(r)) {
			continue
		}
		text := string(rune(r))
		for n := 1; n < len(text); n++ {
			open[text[:n]] = true
		}
	}
	return open
}

func TestNewIsWhole(t *testing.T) {
	if !src.New().Whole() {
		t.Error("the empty sequence is not whole")
	}
}

func TestStepExample(t *testing.T) {
	s := src.New()
	for i, l := range []struct {
		b         byte
		ok, whole bool
	}{
		{0xC3, true, false}, {0x41, false, false}, {0xA9, true, true},
		{0xC0, false, true}, {0xED, true, false}, {0xA0, false, false},
	} {
		if ok, whole := s.Step(l.b), s.Whole(); ok != l.ok || whole != l.whole {
			t.Errorf("step %d, %x: %v, whole %v", i, l.b, ok, whole)
		}
	}
}

// TestStepEdges holds each sequence against the number of bytes that a Scan
// accepts of it before it refuses one.
func TestStepEdges(t *testing.T) {
	for _, l := range []struct {
		bytes string
		want  int
		whole bool
	}{
		{"\x00", 1, true}, {"\x7f", 1, true}, // one byte: first and last
		{"\x80", 0, true}, {"\xbf", 0, true}, // tails with no lead
		{"\xc0\x80", 0, true}, {"\xc1\xbf", 0, true}, // two bytes for one
		{"\xc2\x80", 2, true}, {"\xdf\xbf", 2, true}, // two: first and last
		{"\xc2\x7f", 1, false}, {"\xc2\xc0", 1, false},
		{"\xe0\x80\x80", 1, false}, {"\xe0\x9f\xbf", 1, false}, // three for two
		{"\xe0\xa0\x80", 3, true}, {"\xef\xbf\xbf", 3, true}, // three: first and last
		{"\xe1\x80\x80", 3, true}, {"\xec\x80\x80", 3, true}, {"\xee\x80\x80", 3, true},
		{"\xed\x9f\xbf", 3, true},                              // 0xD7FF
		{"\xed\xa0\x80", 1, false}, {"\xed\xbf\xbf", 1, false}, // 0xD800, 0xDFFF
		{"\xf0\x80\x80\x80", 1, false}, {"\xf0\x8f\xbf\xbf", 1, false}, // four for three
		{"\xf0\x90\x80\x80", 4, true}, {"\xf4\x8f\xbf\xbf", 4, true}, // four: first and last
		{"\xf1\x80\x80\x80", 4, true}, {"\xf3\xbf\xbf\xbf", 4, true},
		{"\xf4\x90\x80\x80", 1, false}, // 0x110000
		{"\xf5\x80\x80\x80", 0, true}, {"\xf8\x88\x80\x80\x80", 0, true}, {"\xff", 0, true},
		{"\xf0\x90\x80", 3, false}, {"\xf0\x90\x41", 2, false}, {"\xe2\x82\xc2", 2, false},
		{"\xc3\xa9\x80", 2, true}, {"\xc3\xa9a\xff", 3, true},
	} {
		s, n := src.New(), 0
		for n < len(l.bytes) && s.Step(l.bytes[n]) {
			n++
		}
		if n != l.want || s.Whole() != l.whole {
			t.Errorf("% x: %d accepted, whole %v", l.bytes, n, s.Whole())
		}
	}
}

// TestStepAll asks every byte behind every open character and behind none: it
// continues if it completes a character or leaves the beginning of one.
func TestStepAll(t *testing.T) {
	open := openPrefixes()
	for prefix := range open {
		asked := scanOf(t, prefix)
		if asked.Whole() != (prefix == "") {
			t.Fatalf("% x: whole %v", prefix, asked.Whole())
		}
		for b := range 256 {
			longer := prefix + string([]byte{byte(b)})
			whole := utf8.ValidString(longer)
			want := whole || open[longer]
			if ok := asked.Step(byte(b)); ok != want {
				t.Fatalf("% x: %v", longer, ok)
			} else if ok && asked.Whole() != whole {
				t.Fatalf("% x: whole %v", longer, !whole)
			} else if ok { // the refused bytes before this one left no trace
				asked = scanOf(t, prefix)
			}
		}
	}
}

// TestStepAfterRefusal continues characters of each length after a refused byte
// in each place of them.
func TestStepAfterRefusal(t *testing.T) {
	for _, text := range []string{"a", "\u00e9", "\u0800", "\ud7ff", "\u20ac", "\U00010000", "\U0010ffff"} {
		s := src.New()
		for i := range len(text) {
			for _, wrong := range []byte{0xC0, 0xFF} {
				if s.Step(wrong) || s.Whole() != (i == 0) {
					t.Errorf("%q at %d: %x is not refused without a trace", text, i, wrong)
				}
			}
			if !s.Step(text[i]) {
				t.Errorf("%q at %d: refused after a refusal", text, i)
			}
		}
		if !s.Whole() {
			t.Errorf("%q is not whole", text)
		}
	}
}

func TestScansAreIndependent(t *testing.T) {
	a, b := src.New(), src.New()
	if !a.Step(0xF0) || !b.Whole() || !b.Step('x') || a.Whole() {
		t.Error("one Scan shows in the other")
	}
	if b.Step(0x90) || !a.Step(0x90) {
		t.Error("one Scan's open character shows in the other")
	}
}
