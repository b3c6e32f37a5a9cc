package angle_test

import (
	"strconv"
	"strings"
	"testing"

	"hexapla/api"
	"hexapla/texts"
)

// carrier is where raw text may stand: what is ahead of it, and the events of
// that; what is behind it, and the events of all but for the expansion.
type carrier struct{ ahead, told, behind, begin, end string }

// carriers are all that there are.
var carriers = []carrier{
	{"<!ENTITY z \"", "", "\"><a k=\"&z;\"/>", "<a @k=", " >"},
	{"<a k=\"", "", "\"/>", "<a @k=", " >"},
	{"<a k=\"v\" l=\"", "", "\" ></a>", `<a @k="v" @l=`, " >"},
	{"<a xmlns:k=\"u\" k:k=\"", "", "\">x</a>", "<a @{u}k=", ` "x" >`},
	{"<a>", "<a", "</a>", "<a", " >"},
	{"<a k=\"v\">x<b/>", `<a @k="v" "x" <b >`, "<b/></a>", `<a @k="v" "x" <b >`, " <b > >"},
	{"<a><b>", "<a <b", "</b>x</a>", "<a <b", ` > "x" >`},
}

// entities are definitions of some entities: d expands to the text b&;, f to ten
// letters.
const entities = "<!ENTITY a \"A\"><!ENTITY d \"b&amp;;\"><!ENTITY e \"\">\n<!ENTITY f \"ffffffffff\">"

// quoted reports whether raw text there ends with a ".
func (c carrier) quoted() bool { return c.behind[0] == '"' }

// expands holds what raw text expands to.
func (c carrier) expands(t *testing.T, raw, want string) {
	t.Helper()
	told := strings.TrimSpace(c.begin + strconv.Quote(want) + c.end)
	if !c.quoted() {
		told = c.begin + " " + strconv.Quote(want) + c.end
		if want == "" {
			told = c.begin + c.end
		}
	}
	syntax.CheckOK(t, entities+c.ahead+raw+c.behind, told)
}

// stops holds the error that is met at the last byte of raw text.
func (c carrier) stops(t *testing.T, raw string, e api.Errno) {
	t.Helper()
	syntax.CheckLast(t, entities+c.ahead+raw, c.told, e)
}

// lacks holds that raw text is incomplete where it ends.
func (c carrier) lacks(t *testing.T, raw string) {
	t.Helper()
	syntax.CheckOpen(t, entities+c.ahead+raw, c.told)
}

func TestRaw(t *testing.T) {
	for _, c := range carriers {
		for raw, want := range map[string]string{
			"": "", "x": "x", " ": " ", " \t\n\r": " \t\n\r", "a b": "a b", "'": "'", ">": ">", "/>": "/>", "]]>": "]]>", "--": "--", "=": "=", "a;": "a;", ";": ";", "#": "#", "\x7f": "\x7f", "é€\U0001f600": "é€\U0001f600", "\u0085\ufeff": "\u0085\ufeff", "!ENTITY": "!ENTITY",
			"&lt;": "<", "&gt;": ">", "&amp;": "&", "&quot;": `"`, "&lt;b/&gt;": "<b/>", "&amp;lt;": "&lt;", "&amp;&amp;": "&&", "&a;": "A", "&a;&a;": "AA", "1&a;2": "1A2", "&e;": "", "&e;&e;": "", "1&e;2": "12", "&d;": "b&;", "&d;a;": "b&;a;", " &a; ": " A ", "é&a;é": "éAé", "&f;": "ffffffffff", ";&a;;": ";A;",
		} {
			c.expands(t, raw, want)
		}
		if !c.quoted() {
			c.expands(t, `"`, `"`)
			c.expands(t, `x="&a;"`, `x="A"`)
		}
		for n := range 5 {
			c.lacks(t, "xx&a;"[:n])
		}
	}
}

// TestRawBytes asks for each byte in raw text, behind some and behind none.
func TestRawBytes(t *testing.T) {
	for _, c := range carriers {
		for b := range 0x80 {
			for _, before := range []string{"", "x", "&a;"} {
				text := string(rune(b))
				switch want := strings.ReplaceAll(before, "&a;", "A") + text; {
				case strings.Contains(never[1:], text), text == "<" && c.quoted():
					c.stops(t, before+text, api.ErrSyntax)
				case text == "&", text == "<", text == `"` && c.quoted(): // which does not stand for itself
				default:
					c.expands(t, before+text, want)
				}
			}
		}
	}
}

// TestReferences asks for references that are none: at the byte with which none
// goes on.
func TestReferences(t *testing.T) {
	for _, c := range carriers {
		for b := range 0x80 {
			text := string(rune(b))
			if !strings.Contains(begins, text) {
				c.stops(t, "&"+text, api.ErrSyntax)
				c.stops(t, "x&a;&"+text, api.ErrSyntax)
			}
			if text != ";" && !strings.Contains(within, text) {
				c.stops(t, "&a"+text, api.ErrSyntax)
				c.stops(t, "&lt"+text, api.ErrSyntax)
				c.stops(t, "&"+n[:16]+text, api.ErrSyntax)
			}
			if strings.Contains(within, text) {
				c.stops(t, "&"+n[:16]+text, api.ErrSyntax) // which is not ErrToken here
			}
		}
		c.stops(t, "&a\xc3", api.ErrSyntax)
		c.stops(t, "&\xc3", api.ErrSyntax)
		c.stops(t, "&a\xff", api.ErrUTF)
		for _, name := range []string{"b", "A", "aa", "LT", "l", "ltt", "apos", "nbsp", "_", "a.", "a-", "z", n[:15], n[:16]} {
			c.stops(t, "&"+name+";", api.ErrEntity)
			c.stops(t, "1&a;&lt;&"+name+";", api.ErrEntity)
			c.lacks(t, "&"+name)
		}
	}
}

// TestExpansion holds how long an expansion may be, by plain bytes and by
// references, and at which byte it is too long.
func TestExpansion(t *testing.T) {
	for _, c := range carriers {
		for _, l := range []texts.Pair{
			{Text: x[:48], Want: x[:48]}, {Text: "&f;&f;&f;&f;" + x[:8], Want: strings.Repeat("f", 40) + x[:8]}, {Text: x[:47] + "&a;", Want: x[:47] + "A"}, {Text: "&a;" + x[:47], Want: "A" + x[:47]}, {Text: x[:46] + "é", Want: x[:46] + "é"},
			{Text: strings.Repeat("&lt;", 48), Want: strings.Repeat("<", 48)}, {Text: x[:45] + "&d;", Want: x[:45] + "b&;"}, {Text: x[:38] + "&f;", Want: x[:38] + "ffffffffff"}, {Text: strings.Repeat("€", 16), Want: strings.Repeat("€", 16)}, {Text: strings.Repeat(blank, 12), Want: strings.Repeat(blank, 12)},
		} {
			c.expands(t, l.Text, l.Want)
			c.expands(t, l.Text+"&e;", l.Want) // nothing more
			for _, more := range []string{"x", " ", "\n", ">", ";", "\x7f", "\xc3", "&lt;", "&a;", "&f;", "&e;x", "&e;&a;"} {
				c.stops(t, l.Text+more, api.ErrToken)
			}
			c.lacks(t, l.Text+"&a")
			// Other errors come first.
			c.stops(t, l.Text+"\x01", api.ErrSyntax)
			c.stops(t, l.Text+"&;", api.ErrSyntax)
			c.stops(t, l.Text+"&a:", api.ErrSyntax)
			c.stops(t, l.Text+"&b;", api.ErrEntity)
			c.stops(t, l.Text+"\xff", api.ErrUTF)
			c.stops(t, l.Text+"&a\xff", api.ErrUTF)
			if c.quoted() {
				c.stops(t, l.Text+"<", api.ErrSyntax)
			} else {
				c.stops(t, l.Text+`"`, api.ErrToken)
			}
		}
		c.stops(t, x[:47]+"\xc3\xa9", api.ErrToken) // within a character
		c.stops(t, x[:47]+"\xc3\xc3", api.ErrUTF)
		c.stops(t, x[:47]+"&d;", api.ErrToken) // within a text
		c.stops(t, x[:39]+"&f;", api.ErrToken)
		c.stops(t, "&f;&f;&f;&f;&f;", api.ErrToken)
	}
}

// TestNotKept holds that each raw text is counted by itself.
func TestNotKept(t *testing.T) {
	full := x[:48]
	good(t, "<a @k="+strconv.Quote(full)+" @l="+strconv.Quote(full)+" "+strconv.Quote(full)+" <b > "+strconv.Quote(full)+" >",
		"<!ENTITY z \""+full+"\"><!ENTITY y \""+full+"\"><a k=\""+full+"\" l=\"&z;\">"+full+"<b/>&y;</a>")
	good(t, "<a"+strings.Repeat(" "+strconv.Quote(full)+" <b >", 20)+" >", "<a>"+strings.Repeat(full+"<b/>", 20)+"</a>")
}

// TestExpand holds that 40 references are expanded, wherever they stand, and that
// predefined entities do not count.
func TestExpand(t *testing.T) {
	repeat := strings.Repeat
	defined := "<!ENTITY a \"A\"><!ENTITY e \"\">"
	for _, c := range carriers {
		used := 0
		if strings.HasPrefix(c.ahead, "<!") {
			used = 1 // by the attribute
		}
		for _, raw := range []string{repeat("&e;", 40-used), repeat("&e;&lt;", 40-used), repeat("&e;&a;", 20-used) + repeat("&a;", used), repeat("&lt;", 8) + repeat("&e;", 40-used)} {
			if r := syntax.Read(t, defined+c.ahead+raw+c.behind); r.Err != api.OK {
				t.Errorf("%q: %s", raw, r.Written())
			}
		}
		for _, raw := range []string{repeat("&e;", 41), repeat("&e;&lt;", 40) + "&e;", repeat("&e;&a;", 20) + "&a;", repeat("&e;&a;", 20) + repeat("&lt;", 28) + "&a;", repeat("&a;", 40) + "&gt;&gt;&e;"} {
			syntax.CheckLast(t, defined+c.ahead+raw, c.told, api.ErrExpand) // ahead of ErrToken
		}
		syntax.CheckLast(t, defined+c.ahead+repeat("&e;", 40)+"&b;", c.told, api.ErrEntity)
		syntax.CheckLast(t, defined+c.ahead+repeat("&e;", 40)+"&e:", c.told, api.ErrSyntax)
	}
	// All of them together.
	for before := range 41 {
		for within := range 41 - before {
			text := "<!ENTITY e \"\"><!ENTITY f \"" + repeat("&e;", before) + "\"><a k=\"" + repeat("&e;", within) + "\">"
			left := 40 - before - within
			if r := syntax.Read(t, text+repeat("&e;", left)+"</a>"); r.Err != api.OK {
				t.Error(before, within, r.Written())
			}
			syntax.Whole(t, text+repeat("&e;", left)+"<b/>&e;", `<a @k="" <b >`, api.ErrExpand, len(text)+3*left+6)
		}
	}
}
