package entities_test

import (
	"strings"
	"testing"
	"unicode/utf8"

	"hexapla/api"
	"hexapla/names"
	"hexapla/texts"
)

func TestNew(t *testing.T) {
	r := newRig(t)
	r.asked(0, 0)
	r.keepsPredefined()
	r.lacks(api.ErrEntity, "a", "l", "LT", "Lt", "ltt", "apos", "nbsp", "<", ">", "&", `"`, "&lt;", "lt;")
	r.lacks(api.ErrEntity, texts.NoNames()...)
	r.fills(0, "", "")
	r.fills(0, "a", "a")
	r.asked(0, 0)
}

func TestExamples(t *testing.T) {
	r := newRig(t)
	r.defines("a", "x")
	r.fills(1, "1&a;&lt;2", "1x<2")
	r.asked(2, 1)
	r.stops(0, "&b;", api.ErrEntity, 2)
	r.stops(0, "&;", api.ErrSyntax, 1)
	r.stops(0, "a&b", api.ErrSyntax, 3)
	r.shuts(api.ErrTwice, "lt", "y")
	r.shuts(api.ErrTwice, "a", "y")
	r.shuts(api.ErrArg, "1", "y")
}

func TestNames(t *testing.T) {
	for _, name := range []string{"a", "Z", "_", "a1", "A1-._", "a-", "a.", "__", "LT", "Lt", "l", "t", "ltt", "apos", "xmlns", long[:15], long[:16]} {
		r := newRig(t)
		r.defines(name, "x")
		r.gets(name, "x")
		r.fills(1, "&"+name+";", "x")
		r.keepsPredefined()
	}
	r := newRig(t)
	r.defines("a", "x")
	for _, name := range texts.NoNames() {
		r.shuts(api.ErrArg, name, "x")
		r.shuts(api.ErrArg, name, "")
		r.lacks(api.ErrEntity, name)
	}
	r.gets("a", "x")
	r.keepsPredefined()
}

// TestAllNames holds all short texts of some bytes against names.Local.
func TestAllNames(t *testing.T) {
	for name := range texts.Short("aZ_09-.:{}& \xc3\xa9", 4) {
		r := newRig(t)
		if names.Local(name) {
			r.defines(name, "x")
			r.gets(name, "x")
		} else {
			r.shuts(api.ErrArg, name, "x")
			r.lacks(api.ErrEntity, name)
		}
	}
}

func TestTexts(t *testing.T) {
	for _, text := range []string{
		"", "x", " ", "\x00", "\n\t\r\x1f\x7f", "abc def", `<&>"';`, "&lt;", "&a;", "&b;", "&", ";", "é", "\u0080", "€", "\ufeff", "\uffff", "\U0001f600", "\U0010ffff", long[:199],
	} {
		r := newRig(t)
		r.defines("a", text)
		r.gets("a", text)
		r.fills(1, "&a;", text)
		r.fills(2, "1&a;2&a;3", "1"+text+"2"+text+"3")
	}
	for _, text := range []string{
		"\x80", "\xbf", "\xc0\x80", "\xc1\xbf", "\xe0\x80\x80", "\xed\xa0\x80", "\xed\xbf\xbf", "\xf0\x80\x80\x80", "\xf4\x90\x80\x80", "\xf5", "\xff", "é\xa9", "a\xff", "\xffa",
		"\xc3", "\xe2\x82", "\xf0\x9f\x98", "a\xc3", "\xc3a", "\xe2\x82&", "a\xe2\x82", long + "\xff", "\xff" + long,
	} {
		r := newRig(t)
		r.shuts(api.ErrUTF, "a", text)
		r.lacks(api.ErrEntity, "a")
		r.defines("a", "x")
		r.gets("a", "x")
	}
}

// TestAllTexts holds all short texts of some bytes.
func TestAllTexts(t *testing.T) {
	for text := range texts.Short("a&;\x00\xc3\xa9\xe2\x82\xac\xed\xf0\x9f\xff", 4) {
		r := newRig(t)
		if utf8.ValidString(text) {
			r.defines("e", text)
			r.gets("e", text)
		} else {
			r.shuts(api.ErrUTF, "e", text)
		}
	}
}

func TestTwice(t *testing.T) {
	r := newRig(t)
	r.defines("a", "x")
	r.defines("A", "")
	r.defines("aa", "a")
	for _, name := range append([]string{"a", "A", "aa"}, predefined...) {
		for _, text := range []string{"", "x", "y", "<", long[:100]} { // also the text that it has
			r.shuts(api.ErrTwice, name, text)
		}
	}
	r.gets("a", "x")
	r.gets("A", "")
	r.gets("aa", "a")
	r.keepsPredefined()
	r.shuts(api.ErrTwice, "a", "y") // got already
	r.fills(3, "&a;&A;&aa;", "xa")
}

// TestSpace holds which text is the last that fits, behind a definition of each
// size, and that names count like texts.
func TestSpace(t *testing.T) {
	for size := 1; size <= 200; size++ {
		for n := 1; n <= 16; n++ {
			r := newRig(t)
			r.defines("a", long[:size-1])
			name := "b" + long[:n-1]
			most := 200 - size - n
			if most < 0 {
				r.shuts(api.ErrEntitySpace, name, "")
				continue
			}
			r.shuts(api.ErrEntitySpace, name, long[:most+1])
			r.lacks(api.ErrEntity, name)
			r.defines(name, long[:most])
			r.asked(200, 0)
			r.shuts(api.ErrTwice, name, "")
			r.shuts(api.ErrEntitySpace, "c", "")
			r.gets(name, long[:most])
			r.keepsPredefined()
		}
	}
}

// TestSpaceAtOnce holds what the first definition may have.
func TestSpaceAtOnce(t *testing.T) {
	for n := 1; n <= 16; n++ {
		r := newRig(t)
		r.shuts(api.ErrEntitySpace, long[:n], long[:201-n])
		r.shuts(api.ErrEntitySpace, long[:n], long)
		r.shuts(api.ErrEntitySpace, long[:n], strings.Repeat("é", 101)) // bytes count, not characters
		r.lacks(api.ErrEntity, long[:n])
		r.defines(long[:n], long[:200-n])
		r.gets(long[:n], long[:200-n])
	}
	r := newRig(t)
	r.shuts(api.ErrEntitySpace, "a", strings.Repeat("é", 100))
	r.shuts(api.ErrEntitySpace, "a", strings.Repeat("x", 1<<20))
	r.defines("aa", strings.Repeat("é", 99))
	r.asked(200, 0)
}

// TestSpaceRefused holds that what does not fit leaves its room to others.
func TestSpaceRefused(t *testing.T) {
	r := newRig(t)
	r.defines("a", long[:150])
	for range 3 {
		r.shuts(api.ErrEntitySpace, "b", long[:49])
		r.shuts(api.ErrEntitySpace, long[:16], long[:34])
		r.shuts(api.ErrArg, "1", long[:10])
		r.shuts(api.ErrUTF, "b", "x\xff")
		r.shuts(api.ErrTwice, "a", "x")
		r.shuts(api.ErrTwice, "amp", "x")
		r.lacks(api.ErrEntity, "b", long[:16], "1")
	}
	r.defines("b", long[:48])
	r.asked(200, 0)
	r.gets("a", long[:150])
	r.gets("b", long[:48])
}

// TestMany defines as many entities as there may be, each with an empty text.
func TestMany(t *testing.T) {
	r := newRig(t)
	var all []string
	for name := range texts.Short("abcdefghijklmnopqrstuvwxyz", 2) {
		switch {
		case name == "" || name == "lt" || name == "gt":
		case r.Size()+len(name) <= 200:
			r.defines(name, "")
			all = append(all, name)
		default:
			r.shuts(api.ErrEntitySpace, name, "")
			r.lacks(api.ErrEntity, name)
		}
	}
	r.asked(200, 0)
	for i, name := range all {
		r.shuts(api.ErrTwice, name, "")
		if i < 40 {
			r.gets(name, "")
		} else {
			r.lacks(api.ErrExpand, name)
		}
	}
	if len(all) < 90 {
		t.Error(len(all))
	}
}

// TestFirstError holds which of several errors is told.
func TestFirstError(t *testing.T) {
	for _, full := range []bool{false, true} {
		r := newRig(t)
		r.defines("a", "x")
		if full {
			r.defines("b", long[:197])
		}
		for _, l := range []struct {
			want       api.Errno
			name, text string
		}{
			{api.ErrArg, "1", "\xff"}, {api.ErrArg, "", "\xff"}, {api.ErrArg, "a:b", long}, {api.ErrArg, long, long}, {api.ErrArg, "1", long + "\xff"}, {api.ErrArg, "\xff", "\xff"}, {api.ErrArg, long[:17], ""},
			{api.ErrUTF, "a", "\xff"}, {api.ErrUTF, "lt", "\xc3"}, {api.ErrUTF, "c", long + "\xff"}, {api.ErrUTF, "c", long + "\xe2\x82"}, {api.ErrUTF, "a", long + "\xff"}, {api.ErrUTF, "quot", "\xff" + long},
			{api.ErrTwice, "a", long}, {api.ErrTwice, "lt", long}, {api.ErrTwice, "gt", long[:200]}, {api.ErrTwice, "amp", long}, {api.ErrTwice, "quot", long},
			{api.ErrEntitySpace, "c", long},
		} {
			r.shuts(l.want, l.name, l.text)
		}
		r.gets("a", "x")
		r.lacks(api.ErrEntity, "c", "1", "", "a:b", long)
		r.keepsPredefined()
	}
}
