package entities_test

import (
	"strings"
	"testing"

	"hexapla/api"
	"hexapla/names"
	"hexapla/texts"
)

// lettered returns an Entities with entities a, b, e (which is empty) and one
// with a name of 16 bytes.
func lettered(t *testing.T) rig {
	t.Helper()
	r := newRig(t)
	r.defines("a", "x")
	r.defines("b", "yé")
	r.defines("e", "")
	r.defines(long[:16], "N")
	return r
}

func TestFill(t *testing.T) {
	n := "&" + long[:16] + ";"
	for _, l := range []struct {
		told      int
		raw, want string
	}{
		{0, "", ""}, {0, "plain; text", "plain; text"}, {0, "é€", "é€"},
		{1, "&a;", "x"}, {1, "&e;", ""}, {1, n, "N"}, {0, "&lt;", "<"},
		{1, "&a;1", "x1"}, {1, "1&a;", "1x"}, {1, "1&a;2", "1x2"}, {1, "1&e;2", "12"}, {1, "é&b;é", "éyéé"}, {1, "1" + n + "2", "1N2"},
		{2, "&a;&a;", "xx"}, {3, "&a;&b;&a;", "xyéx"}, {2, "&a;1&b;", "x1yé"}, {3, "&e;&e;&e;", ""}, {2, n + n, "NN"}, {3, "1&a;2&b;3" + n + "4", "1x2yé3N4"},
		{0, "&lt;&lt;", "<<"}, {1, "&lt;&a;&gt;", "<x>"}, {2, "&a;&amp;&a;", "x&x"}, {0, "&quot;1&quot;", `"1"`}, {1, "1&a;&lt;2", "1x<2"},
		{1, ";&a;;", ";x;"}, {1, "a;&a;a", "a;xa"}, {1, "\x00&a;\n", "\x00x\n"}, {1, "<&a;>", "<x>"},
		{0, "&amp;a;", "&a;"}, {0, "&amp;lt;", "&lt;"}, {0, "&amp;&amp;", "&&"}, {0, "&amp;amp;", "&amp;"}, {1, "&amp;&a;;", "&x;"},
	} {
		lettered(t).fills(l.told, l.raw, l.want)
	}
}

// TestFillOnce holds that texts are not expanded themselves.
func TestFillOnce(t *testing.T) {
	r := newRig(t)
	for _, l := range []struct{ name, text string }{
		{"a", "&a;"}, {"b", "&lt;"}, {"c", "&"}, {"d", "&d"}, {"e", ";"}, {"f", "&none;"}, {"g", "&;"}, {"h", "x"},
	} {
		r.defines(l.name, l.text)
		r.gets(l.name, l.text)
		r.fills(1, "&"+l.name+";", l.text)
		r.fills(2, "&"+l.name+";&"+l.name+";", l.text+l.text)
	}
	r.fills(1, "&c;h;", "&h;")
	r.fills(2, "&c;h&e;", "&h;")
	r.fills(2, "&d;&e;", "&d;")
	r.asked(28, 37)
}

// TestFillSyntax holds where a reference is left, or not ended.
func TestFillSyntax(t *testing.T) {
	for _, before := range []string{"", "1", ";", "é", "\xff", "&lt;", "&amp;", long} {
		for _, l := range []struct {
			raw string
			off int
		}{
			{"&", 1}, {"&a", 2}, {"&lt", 3}, {"&a.", 3}, {"&a-_9", 5}, {"&" + long[:15], 16}, {"&" + long[:16], 17}, // at the end
			{"&;", 1}, {"&;;", 1}, {"&1;", 1}, {"&-;", 1}, {"&.a;", 1}, {"& a;", 1}, {"&#60;", 1}, {"&:a;", 1}, {"&\x00", 1}, {"&é;", 1}, {"&\xff", 1}, {"&<", 1}, {`&"`, 1}, // no name
			{"&a b;", 2}, {"&a :", 2}, {"&a:b;", 2}, {"&a,", 2}, {"&aé;", 2}, {"&a\xff;", 2}, {"&a\x00;", 2}, {"&a\n;", 2}, {"&lt<", 3}, {"&a.:;", 3}, {"&a1/", 3},
			{"&&", 1}, {"&&a;", 1}, {"&a&b;", 2}, {"&a&;", 2}, {"&lt&", 3}, // another one
			{"&" + long[:17], 17}, {"&" + long[:17] + ";", 17}, {"&" + long[:18] + ";", 17}, {"&" + long, 17}, {"&" + long[:16] + "-;", 17}, {"&" + long[:16] + ":", 17}, {"&" + long[:16] + " ;", 17},
		} {
			for _, behind := range []string{"", ";", "&a;", " "} {
				if l.off == len(l.raw) && behind != "" {
					continue // the reference goes on
				}
				lettered(t).stops(0, before+l.raw+behind, api.ErrSyntax, len(before)+l.off)
			}
		}
	}
}

// TestFillBytes asks each byte in each place of a reference.
func TestFillBytes(t *testing.T) {
	for b := range 256 {
		text := string([]byte{byte(b)})
		for n := range 17 {
			r := newRig(t)
			if n > 0 {
				r.defines(long[:n], "x")
			}
			name := long[:n] + text
			raw := "1&" + name
			switch {
			case names.Local(name):
				r.stops(0, raw, api.ErrSyntax, len(raw))
				r.stops(0, raw+"!", api.ErrSyntax, len(raw))
				if b != 'n' || n == 16 {
					r.stops(0, raw+";", api.ErrEntity, len(raw))
				}
				r.defines(name, "y")
				r.fills(1, raw+";", "1y")
			case b == ';' && n > 0:
				r.fills(1, raw, "1x")
				r.fills(1, raw+"2", "1x2")
			default:
				r.stops(0, raw, api.ErrSyntax, 2+n)
				r.stops(0, raw+";", api.ErrSyntax, 2+n)
			}
		}
	}
}

// TestFillEntity holds that an unknown name is told at the semicolon.
func TestFillEntity(t *testing.T) {
	for _, name := range []string{"c", "A", "aa", "LT", "l", "ltt", "apos", "a.", "_", long[:15], strings.Repeat("m", 16)} {
		for _, before := range []string{"", "1", "é", "&lt;", "\xff;", long} {
			for _, behind := range []string{"", ";", "1", "&", "&;", "&c;", "&lt;"} {
				lettered(t).stops(0, before+"&"+name+";"+behind, api.ErrEntity, len(before)+1+len(name))
			}
		}
	}
	r := newRig(t)
	r.stops(0, "&a;", api.ErrEntity, 2)
	r.defines("a", "x")
	r.fills(1, "&a;", "x")
}

// TestFillExpand holds that the 41st text is told at the semicolon.
func TestFillExpand(t *testing.T) {
	n := strings.Repeat
	for told := range 41 {
		left := 40 - told
		r := newRig(t)
		r.defines("a", "xx")
		r.tells(told, "xx")
		r.stops(left, n("&a;", left+1), api.ErrExpand, 3*left+2)
		r.asked(3, 40)
		r.fills(0, "&lt;", "<")

		r = newRig(t)
		r.defines("a", "xx")
		r.tells(told, "xx")
		r.fills(left, n("&lt;&a;1", left)+"&lt;&lt;", n("<xx1", left)+"<<")
		r.stops(0, "&lt;1&a;&b;", api.ErrExpand, 7)
		r.stops(0, "&b;&a;", api.ErrEntity, 2)
		r.stops(0, "&a&a;", api.ErrSyntax, 2)
		r.asked(3, 40)
	}
	r := newRig(t)
	r.defines("a", "")
	r.stops(40, n("&a;", 1000), api.ErrExpand, 122)
	r.fills(0, n("&amp;", 1000), n("&", 1000))
}

// TestFillCounts holds what is counted ahead of an error.
func TestFillCounts(t *testing.T) {
	for _, l := range []struct {
		told int
		raw  string
		e    api.Errno
		off  int
	}{
		{1, "&a;&", api.ErrSyntax, 4}, {1, "&a;&a", api.ErrSyntax, 5}, {1, "&a;&1;&a;", api.ErrSyntax, 4}, {1, "1&e;2&;", api.ErrSyntax, 6},
		{2, "&a;&b;&", api.ErrSyntax, 7}, {3, "&a;&a;&lt;&a;&&a;", api.ErrSyntax, 14}, {0, "&lt;&gt;&", api.ErrSyntax, 9}, {0, "&;&a;&a;", api.ErrSyntax, 1},
		{1, "&a;&c;", api.ErrEntity, 5}, {1, "&a;&c;&a;", api.ErrEntity, 5}, {2, "&a;&lt;&b;&lT;&a;", api.ErrEntity, 13}, {0, "&c;&a;", api.ErrEntity, 2}, {1, "&a;&c;&", api.ErrEntity, 5}, {1, "&a;&&c;", api.ErrSyntax, 4},
	} {
		r := lettered(t)
		for range 3 { // each time anew
			r.stops(l.told, l.raw, l.e, l.off)
		}
		r.gets("a", "x")
	}
	r := lettered(t)
	r.tells(39, "x")
	r.stops(1, "&a;&a", api.ErrSyntax, 5)
	r.stops(0, "&a;&a", api.ErrExpand, 2)
	r.asked(24, 40)
}

// TestPlain holds that texts without & are not changed, characters or not.
func TestPlain(t *testing.T) {
	r := lettered(t)
	for raw := range texts.Short("a;<\x00\xc3\xa9\xe2\xff", 5) {
		r.fills(0, raw, raw)
	}
	for b := range 256 {
		if b != '&' {
			raw := string([]byte{byte(b)})
			r.fills(0, raw, raw)
			r.fills(0, raw+"&lt;"+raw, raw+"<"+raw)
		}
	}
	for _, raw := range []string{long, strings.Repeat("\xff", 100000), strings.Repeat("lt;", 100000)} {
		r.fills(0, raw, raw)
	}
	r.tells(40, "x")
	r.fills(0, "a;", "a;")
}
