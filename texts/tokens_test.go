package texts_test

import (
	"slices"
	"strings"
	"testing"
	"unicode/utf8"

	"hexapla/api"
	"hexapla/names"
	"hexapla/num"
	"hexapla/quote"
	"hexapla/src"
	"hexapla/texts"
)

func TestNumbers(t *testing.T) {
	for _, l := range append(texts.Numbers(), texts.LongNumbers()...) {
		if form, e := num.Read(l.Text); form != l.Want || e != api.OK {
			t.Errorf("%q: %q %v", l.Text, form, e)
		}
	}
	for _, l := range texts.LongNumbers() {
		if len(l.Text) != 30 {
			t.Errorf("%q: %d bytes", l.Text, len(l.Text))
		}
	}
}

func TestNoNumbers(t *testing.T) {
	for _, text := range texts.TooLongNumbers() {
		if begins, _ := num.May(text); !begins || len(text) != 31 {
			t.Errorf("%q: %v, %d bytes", text, begins, len(text))
		}
	}
	for _, text := range texts.OpenNumbers() {
		if begins, whole := num.May(text); !begins || whole || len(text) > 30 {
			t.Errorf("%q: %v %v, %d bytes", text, begins, whole, len(text))
		}
	}
	for _, text := range texts.RefusedNumbers() {
		_, whole := num.May(text)
		if _, e := num.Read(text); !whole || e != api.ErrNumber || len(text) > 30 {
			t.Errorf("%q: %v %v, %d bytes", text, whole, e, len(text))
		}
	}
}

// decode decodes a quoted string, and returns its contents, whether the last byte
// ends it, and the error that is met there, or ErrArg if one is met ahead of it.
func decode(text string) (string, bool, api.Errno) {
	q, scan := quote.New(), src.New()
	for i := 1; i < len(text); i++ {
		e, closed := api.ErrUTF, false
		if scan.Step(text[i]) {
			closed, e = q.Step(text[i])
		}
		switch last := i == len(text)-1; {
		case last && (closed || e != api.OK):
			return q.Text(), closed, e
		case closed || e != api.OK:
			return "", false, api.ErrArg
		}
	}
	return "", false, api.OK
}

func TestQuoted(t *testing.T) {
	for _, l := range append(texts.Quoted(), texts.LongQuoted()...) {
		if got, closed, e := decode(l.Text); got != l.Want || !closed || e != api.OK || l.Text[0] != '"' {
			t.Errorf("%s: %q %v %v", l.Text, got, closed, e)
		}
	}
	for _, l := range texts.LongQuoted() {
		if len(l.Want) != 48 {
			t.Errorf("%s: %d bytes", l.Text, len(l.Want))
		}
	}
	for _, text := range texts.OpenQuoted() {
		if _, closed, e := decode(text); closed || e != api.OK || !utf8.ValidString(text) || text[0] != '"' {
			t.Errorf("%s: %v %v", text, closed, e)
		}
	}
}

func TestPrinted(t *testing.T) {
	seen := map[string]int{}
	for _, l := range texts.Printed() {
		if got, e := quote.Print(l.Text); got != l.Want || e != api.OK {
			t.Errorf("%q: %s %v", l.Text, got, e)
		}
		seen[l.Text]++
		seen[l.Want]++
	}
	if len(seen) != 2*len(texts.Printed()) {
		t.Error(seen)
	}
}

func TestWrongQuoted(t *testing.T) {
	met := map[api.Errno]int{}
	for _, l := range texts.WrongQuoted() {
		if _, closed, e := decode(l.Text); closed || e != l.Err || l.Text[0] != '"' {
			t.Errorf("%q: %v %v", l.Text, closed, e)
		}
		met[l.Err]++
	}
	if met[api.ErrSyntax] < 64 || met[api.ErrEscape] < 120 || met[api.ErrToken] < 50 || met[api.ErrUTF] < 60 {
		t.Error(met)
	}
}

func TestCutCharacters(t *testing.T) {
	for _, bytes := range texts.CutCharacters() {
		scan := src.New()
		for i := range len(bytes) {
			if !scan.Step(bytes[i]) {
				t.Errorf("%q at %d", bytes, i)
			}
		}
		if scan.Whole() {
			t.Errorf("%q", bytes)
		}
	}
}

func TestNoNames(t *testing.T) {
	for _, text := range texts.NoNames() {
		if names.Local(text) {
			t.Errorf("%q", text)
		}
	}
}

// picks returns a pick that gives these numbers, one by one, and holds that each
// may be given.
func picks(t *testing.T, numbers ...int) func(n int) int {
	return func(n int) int {
		next := numbers[0]
		if numbers = numbers[1:]; next >= n {
			t.Errorf("%d of %d", next, n)
		}
		return next
	}
}

func TestSpoiled(t *testing.T) {
	for _, l := range []struct {
		numbers []int
		want    string
	}{
		{[]int{0, 0, 0}, ""}, {[]int{2, 0, 0}, "ab"}, {[]int{3, 0, 0}, "abc"}, {[]int{0, 0, 1}, "xabc"}, {[]int{1, 1, 1}, "aybc"}, {[]int{3, 1, 1}, "abcy"},
		{[]int{0, 0, 2}, "bc"}, {[]int{2, 0, 2}, "ab"}, {[]int{3, 0, 2}, "abc"}, {[]int{0, 1, 3}, "ybc"}, {[]int{2, 0, 3}, "abx"}, {[]int{3, 0, 3}, "abcx"},
	} {
		if got := texts.Spoiled("abc", "xy", picks(t, l.numbers...)); got != l.want {
			t.Errorf("%v: %q", l.numbers, got)
		}
	}
}

// TestRandom holds that what is made at random covers what it says.
func TestRandom(t *testing.T) {
	met := map[api.Errno]int{}
	var lengths []int
	for long := range 4 {
		for far := range 8 {
			for kind := range 8 {
				text := texts.RandomNumber(picks(t, long, far, kind))
				lengths = append(lengths, len(text))
				_, e := num.Read(text)
				met[e]++
			}
		}
	}
	if met[api.OK] < 200 || met[api.ErrNumber] < 20 || slices.Max(lengths) != 31 {
		t.Error(met, slices.Max(lengths))
	}
	if got := texts.RandomQuoted(0, nil); got != `""` {
		t.Error(got)
	}
	if got, _, e := decode(texts.RandomQuoted(3, picks(t, 0, 0, 0, 3, 0, 4))); got != "a\né" || e != api.OK {
		t.Error(got, e)
	}
	long := texts.RandomQuoted(2, picks(t, 19, 7, 19, 7))
	if _, _, e := decode(long); e != api.ErrArg || len(long) != 2+2*49 || strings.Trim(long, `"x`) != "" {
		t.Error(long, e)
	}
}
