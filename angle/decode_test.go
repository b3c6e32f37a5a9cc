package angle_test

import (
	"strings"
	"testing"

	"hexapla/api"
	"hexapla/checks"
	"hexapla/texts"
)

// elements are elements of all kinds, and their events.
var elements = []texts.Pair{
	{Text: "<a/>", Want: "<a >"}, {Text: "<a></a>", Want: "<a >"}, {Text: "<a>x</a>", Want: `<a "x" >`}, {Text: "<a> </a>", Want: `<a " " >`}, {Text: `<a k="v"/>`, Want: `<a @k="v" >`}, {Text: `<a k="v">&lt;</a>`, Want: `<a @k="v" "<" >`},
	{Text: "<a><b/></a>", Want: "<a <b > >"}, {Text: "<a><b></b>x<c/></a>", Want: `<a <b > "x" <c > >`}, {Text: `<a xmlns="u"/>`, Want: "<{u}a >"}, {Text: `<p:a xmlns:p="u" p:k="v">x<p:b/>y</p:a>`, Want: `<{u}a @{u}k="v" "x" <{u}b > "y" >`},
}

// TestDocument holds the examples of the document.
func TestDocument(t *testing.T) {
	good(t, `<a @k="1" "x<" <b > >`, `<a k="1">x&lt;<b/></a>`)
	good(t, `<{u}a @{u}k="v" >`, `<p:a xmlns:p="u" p:k="v"/>`)
	good(t, `<a "hi" >`, `<!ENTITY e "hi"><a>&e;</a>`)
	syntax.Check(t, "<p:a/>", "", api.ErrName, 4)
	syntax.Check(t, "<a></b>", "<a", api.ErrName, 6)
	syntax.Check(t, "<a>&x;", "<a", api.ErrEntity, 5)
	syntax.Check(t, `<a k="1" k="2">`, `<a @k="1"`, api.ErrTwice, 14)
	good(t, `<{u}a @k="1" >`, `<p:a xmlns:p="u" k="1"/>`, `<a xmlns="u" k="1"/>`)
}

// blanks are the four, each alone and in rows.
var blanks = []string{" ", "\t", "\n", "\r", "   ", " \t\n\r", "\r\n\r\n", strings.Repeat(" ", 100)}

// Definitions, of which the second one is expanded with the first one.
const (
	define  = "<!ENTITY e \"hi\">"
	another = "<!ENTITY f \"&e;!\">"
)

func TestBlanks(t *testing.T) {
	for _, l := range elements {
		good(t, l.Want, l.Text, define+l.Text, define+another+l.Text)
		for _, blank := range blanks {
			good(t, l.Want, blank+l.Text, l.Text+blank, blank+l.Text+blank)
			good(t, l.Want, blank+define+l.Text, define+blank+l.Text, blank+define+blank+another+blank+l.Text+blank, define+blank+another+l.Text)
		}
	}
}

// TestBlanksWithin puts blanks wherever they may mean nothing within a text, and
// nowhere else.
func TestBlanksWithin(t *testing.T) {
	for _, tokens := range [][]string{
		{"<a", "/>"}, {"<a", "></a", ">"}, {"<a k=\"v\"", "/>"}, {"<a k=\"v\"", ">x</a", ">"}, {"<a", " k=\"v\"", " l=\"&e;\"", "><b", "/>&f;</a", ">"}, {"<p:a", " xmlns:p=\"u\"", "><p:b", "></p:b", "></p:a", ">"},
	} {
		ahead := "<!ENTITY e \"x\">" + "<!ENTITY f \"&e;y\">"
		text := strings.Join(tokens, "")
		want := checks.Written(syntax.Read(t, ahead+text).Events)
		good(t, want, ahead+text)
		for _, blank := range blanks {
			defined := blank + "<!ENTITY e \"x\"" + blank + ">" + blank + "<!ENTITY f \"&e;y\"" + blank + ">" + blank
			good(t, want, defined+strings.Join(tokens, blank)+blank)
		}
	}
}

func TestBlanksAlone(t *testing.T) {
	open(t, "", "")
	open(t, "", blanks...)
	open(t, "", define, define+" ", " "+define+"\n"+another+"\t")
	for _, no := range []string{"\v", "\f", "\x00", "\x1f", "\x7f", "\u00a0", "\u0085", "\u2028", "\ufeff", ";", "#", "/", "&", "x", ">", "\""} {
		for _, ahead := range []string{"", " ", define, define + "\n"} {
			syntax.Check(t, ahead+no+"<a/>", "", api.ErrSyntax, len(ahead))
		}
		for _, behind := range []string{"", " ", "\r\n"} {
			syntax.Check(t, "<a/>"+behind+no, "<a >", api.ErrSyntax, 4+len(behind))
			syntax.Check(t, "<a></a>"+behind+no, "<a >", api.ErrSyntax, 7+len(behind))
		}
	}
}

// follows are texts, their events, and the bytes that may follow. Which they may
// is the chapter's grammar, place by place.
var follows = []struct{ text, want, may string }{
	{"", "", "<" + blank}, {" ", "", "<" + blank}, {"<", "", "!" + begins}, {" \n<", "", "!" + begins},
	// Definitions.
	{"<!", "", "E"}, {"<!E", "", "N"}, {"<!EN", "", "T"}, {"<!ENT", "", "I"}, {"<!ENTI", "", "T"}, {"<!ENTIT", "", "Y"}, {"<!ENTITY", "", " "}, {"<!ENTITY ", "", begins}, {"<!ENTITY e", "", " " + within}, {"<!ENTITY e ", "", "\""},
	{"<!ENTITY e \"", "", but(never)}, {"<!ENTITY e \"x", "", but(never)}, {"<!ENTITY e \"&", "", begins}, {"<!ENTITY e \"&l", "", ";" + within}, {"<!ENTITY e \"&lt;", "", but(never)}, {"<!ENTITY e \"x\"", "", ">" + blank}, {"<!ENTITY e \"x\" ", "", ">" + blank},
	{define, "", "<" + blank}, {define + "\t", "", "<" + blank}, {define + "<", "", "!" + begins}, {define + another + "<", "", "!" + begins}, {define + "<!", "", "E"},
	// Tags.
	{"<a", "", ":/>" + blank + within}, {"<a:", "", begins}, {"<p:b", "", "/>" + blank + within}, {"<a ", "", "/>" + blank + begins}, {"<a\r", "", "/>" + blank + begins}, {"<a/", "<a", ">"}, {"<a k=\"v\"/", `<a @k="v"`, ">"},
	{"<a k", "", ":=" + within}, {"<a k:", "", begins}, {"<a k:l", "", "=" + within}, {"<a k=", "", "\""}, {"<a k:l=", "", "\""}, {"<a k=\"", "", but(never)}, {"<a k=\"v", "", but(never)}, {"<a k=\"&", "", begins}, {"<a k=\"&gt", "", ";" + within}, {"<a k=\"&gt;", "", but(never)},
	{"<a k=\"\"", "", "/>" + blank}, {"<a k=\"\" ", "", "/>" + blank + begins}, {"<a k=\"\" l=\"\"", "", "/>" + blank}, {"<a xmlns=\"u\"", "", "/>" + blank}, {"<a xmlns", "", ":=" + within}, {"<a xmlns:", "", begins},
	// Contents.
	{"<a>", "<a", but(never) + "<"}, {"<a>x", "<a", but(never) + "<"}, {"<a>\"", "<a", but(never) + "<"}, {"<a>&", "<a", begins}, {"<a>x&", "<a", begins}, {"<a>&l", "<a", ";" + within}, {"<a>&lt;", "<a", but(never) + "<"}, {"<a><b/>", "<a <b >", but(never) + "<"}, {"<a><b></b>", "<a <b >", but(never) + "<"},
	{"<a><", "<a", "/" + begins}, {"<a>x<", `<a "x"`, "/" + begins}, {"<a><b/><", "<a <b >", "/" + begins}, {"<a><b", "<a", ":/>" + blank + within}, {"<a><b>", "<a <b", but(never) + "<"}, {"<a><b/", "<a <b", ">"},
	// End tags, and behind.
	{"<a></", "<a", begins}, {"<a></a", "<a", ":>" + blank + within}, {"<a></b:", "<a", begins}, {"<a></b:b", "<a", ">" + blank + within}, {"<a></a ", "<a", ">" + blank}, {"<a><b></", "<a <b", begins}, {"<a><b></b", "<a <b", ":>" + blank + within}, {"<a><b></b\n", "<a <b", ">" + blank},
	{"<a/>", "<a >", blank}, {"<a></a>", "<a >", blank}, {"<a/> ", "<a >", blank}, {"<a><b/></a>", "<a <b > >", blank},
}

// TestFollows asks each byte behind each of them.
func TestFollows(t *testing.T) {
	for _, l := range follows {
		syntax.Following(t, texts.Pair{Text: l.text, Want: l.want}, l.may)
	}
}

// TestNoCharacters asks for bytes that form no characters, in each place.
func TestNoCharacters(t *testing.T) {
	for _, l := range follows {
		last(t, l.want, api.ErrUTF, l.text+"\xff", l.text+"\x80", l.text+"\xc0", l.text+"\xf5")
		for _, bytes := range texts.CutCharacters() {
			text := l.text + bytes
			if !strings.Contains(l.may, "\xc3") {
				syntax.Check(t, text, l.want, api.ErrSyntax, len(l.text)) // an earlier error
				continue
			}
			syntax.Check(t, text, l.want, api.ErrUTF, len(text))
			last(t, l.want, api.ErrUTF, text+"\xff", text+"<", text+"\"", text+"&", text+"\xc3", text+" ", text+"x")
		}
		if strings.Contains(l.may, "\xc3") {
			last(t, l.want, api.ErrUTF, l.text+"\xe0\x80", l.text+"\xed\xa0", l.text+"\xf0\x80", l.text+"\xf4\x90", l.text+"é\xff", l.text+"é\xa9")
		}
	}
}

// TestBehind asks for what stands behind the element.
func TestBehind(t *testing.T) {
	for _, l := range elements {
		for _, more := range []string{"<", ">", "x", "&", "\"", "/", "\x00", "\xc3"} {
			last(t, l.Want, api.ErrSyntax, l.Text+more, l.Text+" "+more, define+l.Text+"\r\n"+more)
		}
		for _, more := range []string{"<b/>", l.Text, define, "</a>", "x", "&lt;"} {
			syntax.Check(t, l.Text+more, l.Want, api.ErrSyntax, len(l.Text))
			syntax.Check(t, l.Text+" \n"+more, l.Want, api.ErrSyntax, len(l.Text)+2)
		}
	}
}
