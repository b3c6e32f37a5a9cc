package texts_test

import (
	"slices"
	"testing"

	"hexapla/texts"
)

func TestShort(t *testing.T) {
	for _, l := range []struct {
		alphabet string
		length   int
		want     []string
	}{
		{"ab", 2, []string{"", "a", "aa", "ab", "b", "ba", "bb"}}, {"\xff", 3, []string{"", "\xff", "\xff\xff", "\xff\xff\xff"}},
		{"ab", 0, []string{""}}, {"", 3, []string{""}},
	} {
		if got := slices.Collect(texts.Short(l.alphabet, l.length)); !slices.Equal(got, l.want) {
			t.Errorf("%q %d: %q", l.alphabet, l.length, got)
		}
	}
	n := 0
	for range texts.Short("ab", 3) { // a visit may be the last one
		n++
		if n == 4 {
			break
		}
	}
	if n != 4 {
		t.Error(n)
	}
}

func TestRows(t *testing.T) {
	want := []string{"", "ab", "abab", "abc", "c", "cab", "cc"}
	if got := slices.Collect(texts.Rows(2, "ab", "c")); !slices.Equal(got, want) {
		t.Errorf("%q", got)
	}
	if got := slices.Collect(texts.Rows(3)); !slices.Equal(got, []string{""}) {
		t.Errorf("%q", got)
	}
}

func TestLists(t *testing.T) {
	var got [][]string
	for list := range texts.Lists(2, "ab", "") {
		got = append(got, list)
	}
	want := [][]string{nil, {"ab"}, {"ab", "ab"}, {"ab", ""}, {""}, {"", "ab"}, {"", ""}}
	if !slices.EqualFunc(got, want, slices.Equal) {
		t.Errorf("%q", got)
	}
}
