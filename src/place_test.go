package src_test

import (
	"math"
	"strings"
	"testing"

	"hexapla/api"
	"hexapla/src"
	"hexapla/texts"
)

func TestPlace(t *testing.T) {
	for _, l := range []struct {
		text           string
		off, line, col int
	}{
		{"", 0, 1, 1},
		{"a", 0, 1, 1}, {"a", 1, 1, 2}, // the end
		{"a\n\u00e9b", 4, 2, 2},
		{"a\n", 1, 1, 2}, // a newline stands on the line that it ends
		{"a\n", 2, 2, 1}, {"a\nb", 2, 2, 1}, {"a\nb", 3, 2, 2},
		{"\n\n", 0, 1, 1}, {"\n\n", 1, 2, 1}, {"\n\n", 2, 3, 1},
		{"\u00e9b", 1, 1, 2}, {"\u00e9b", 2, 1, 2}, {"\u00e9b", 3, 1, 3},
		{"\U0001f600b", 4, 1, 2},
		{"\x80\xbfa", 2, 1, 1}, {"\x80\xbfa", 3, 1, 2}, // tails alone take no column
		{"\x7f\xc0", 1, 1, 2}, {"\x7f\xc0", 2, 1, 3}, // their neighbours take one
		{"\xff\xff", 2, 1, 3}, {"\x00\t\r", 3, 1, 4}, {"a\rb", 2, 1, 3},
		{"abc\n\x80\x80", 6, 2, 1}, {"a\n\x80\n\xc3", 5, 3, 2},
	} {
		if line, col, e := src.Place(l.text, l.off); line != l.line || col != l.col || e != api.OK {
			t.Errorf("%q, %d: %d %d %v", l.text, l.off, line, col, e)
		}
	}
}

func TestPlaceRefused(t *testing.T) {
	for _, l := range []struct {
		text string
		off  int
	}{
		{"", -1}, {"", 1}, {"a", -1}, {"a", 2}, {"a\nb", 4}, {"\u00e9", 3},
		{"abc", math.MinInt}, {"abc", math.MaxInt}, {"abc", math.MaxUint32 + 1},
	} {
		if line, col, e := src.Place(l.text, l.off); line != 0 || col != 0 || e != api.ErrArg {
			t.Errorf("%q, %d: %d %d %v", l.text, l.off, line, col, e)
		}
	}
}

// TestPlaceAll holds the places in short texts against a count of the whole
// line before the offset.
func TestPlaceAll(t *testing.T) {
	for text := range texts.Short("\n\ra\x7f\x80\xbf\xc0\xff", 4) {
		for off := range len(text) + 1 {
			before := text[:off]
			wantLine := strings.Count(before, "\n") + 1
			wantCol := 1
			for _, b := range []byte(before[strings.LastIndex(before, "\n")+1:]) {
				if b < 0x80 || 0xBF < b {
					wantCol++
				}
			}
			if line, col, e := src.Place(text, off); line != wantLine || col != wantCol || e != api.OK {
				t.Fatalf("%q, %d: %d %d %v, not %d %d", text, off, line, col, e, wantLine, wantCol)
			}
		}
	}
}

// TestPlaceFar asks past the numbers that a float32 tells apart.
func TestPlaceFar(t *testing.T) {
	const lines, width = 1<<24 + 2, 1<<24 + 4
	text := strings.Repeat("\n", lines) + strings.Repeat("x", width)
	if line, col, e := src.Place(text, len(text)); line != lines+1 || col != width+1 || e != api.OK {
		t.Error(line, col, e)
	}
}

// TestPlaceIsNotKept asks one place between others: no answer hangs on an
// earlier one.
func TestPlaceIsNotKept(t *testing.T) {
	for range 2 {
		if line, col, e := src.Place("a\nbc", 4); line != 2 || col != 3 || e != api.OK {
			t.Error(line, col, e)
		}
		src.Place("a\nbc", 9)
		src.Place("\n\n\n", 3)
	}
}
