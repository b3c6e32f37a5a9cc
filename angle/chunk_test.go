package angle_test

import (
	"strconv"
	"strings"
	"testing"

	"hexapla/api"
	"hexapla/checks"
)

// samples are texts with all kinds of ends.
var samples = []string{
	"", " ", "\t\n\r ", "<", "<a", "<a ", "<a/", "<a/>", "<a></a>", " <a k=\"1\">x&lt;<b/></a>\n", "<p:a xmlns:p=\"u\" p:k=\"v\"/>", "<a><b>x</b>y<c/></a> x", "<a><b></a>", "<a></p:a>", "<p:a/>", "<a p:k=\"\"/>",
	"<!ENTITY e \"hi\"><a>&e;</a>", "<!ENTITY e \"hi\" >\n<!ENTITY f \"&e;&e;\"><a k=\"&f;\"/>", "<!ENTITY e \"\"><!ENTITY e \"\">", "<!ENTITY  e", "<!ENTITX", "<!ENTITY e \"<", "<!ENTITY e \"&e;", "<!ENTITY e \"x\">",
	"<a>&x;", "<a>&", "<a>&lt", "<a>& ", "<a k=\"&;", "<a k=\"1\" k=\"2\">", "<a k=\"1\"l", "<a k =", "<a k=x", "<a k=\"<", "<a xmlns=\"u\" xmlns=\"u\"/>", "<a xmlns=\"u v\"/>", "<a xmlns:p=\"\"/>", "<a/ >", "<a></ a>", "<a></a b>", "<a/><b/>",
	"<a>" + x[:48] + "</a>", "<a>" + x[:49], "<a k=\"" + x[:47] + "&amp;&amp;\"/>", "<" + n[:17], "<" + n[:16] + ":" + n[:17], "<a " + n[:17], "<a>&" + n[:17], "<a><b><c><d><e><f></f><f/></e></d></c></b></a>", "<a><b><c><d><e><f><g/>",
	"<a>\x01", "<a>\xff", "<a>\xc3\xa9<b/>\xe2\x82\xac</a>", "<a>\xe2\x82<", "<a k=\"\xf0\x9f\x98\x80\"/>", "<\xc3\xa9", "\xef\xbb\xbf<a/>", "<a/>\xc3", "<!ENTITY e \"\xc3\"",
}

// TestSamples holds each sample in pieces, and some of the ends.
func TestSamples(t *testing.T) {
	syntax.Samples(t, samples...)
	good(t, `<a @k="1" "x<" <b > >`, " <a k=\"1\">x&lt;<b/></a>\n")
	syntax.Check(t, "<a><b>x</b>y<c/></a> x", `<a <b "x" > "y" <c > >`, api.ErrSyntax, 21)
	syntax.Check(t, "<a><b></a>", "<a <b", api.ErrName, 9)
	good(t, `<a @k="hihi" >`, "<!ENTITY e \"hi\" >\n<!ENTITY f \"&e;&e;\"><a k=\"&f;\"/>")
}

// placed holds at which bytes the events of a text are reported, and what there
// is of them where the text ends. For marked see checks.Placed.
func placed(t *testing.T, marked, written string) {
	t.Helper()
	text, events, places := checks.Placed(t, marked, written)
	var list []string
	for i := range events {
		word := strings.ReplaceAll(checks.Written(events[i:i+1]), `"`, "")
		list = append(list, word+"@"+strconv.Itoa(places[i]))
	}
	syntax.ReportedAt(t, text, strings.Join(list, " "))
	syntax.CheckOK(t, text, written)
	whole := strings.LastIndex(text, ">")
	for i, told := 0, 0; i <= whole; i++ {
		for told < len(places) && places[told] < i {
			told++
		}
		if text[i]&0xC0 != 0x80 { // not within a character
			open(t, checks.Written(events[:told]), text[:i])
		}
	}
}

// TestReportedAt holds where events are reported, and texts that end within each
// part of the syntax.
func TestReportedAt(t *testing.T) {
	placed(t, " <a^/^> ", "<a >")
	placed(t, " <a \n^/^> ", "<a >")
	placed(t, "<a^></a^>\n", "<a >")
	placed(t, "<a k=\"1\" l=\"&amp;\"^^^/^>", `<a @k="1" @l="&" >`)
	placed(t, "\t<a k=\"é\" ^^>x^<b^/^>y&lt;^<c^>z^</c ^>€^</a\n^> ", `<a @k="é" "x" <b > "y<" <c "z" > "€" >`)
	placed(t, "<!ENTITY e \"hi\"> <!ENTITY f \"\"\t><a^><b^/^>&f;<b^>&e;&f;^</b^>&e;^</a^>", `<a <b > <b "hi" > "hi" >`)
	placed(t, "<p:a xmlns:p=\"u\" p:k=\"v\" xmlns=\"w\"^^><b ^/^></p:a^>", `<{u}a @{u}k="v" <{w}b > >`)
	placed(t, "<a^><b^><c^><d^><e^><f^/^></e^></d^>x^</c^></b^></a^>", `<a <b <c <d <e <f > > > "x" > > >`)
}

// TestEventually holds that events come before Close, when nothing follows, or
// blanks, for long.
func TestEventually(t *testing.T) {
	for text, want := range map[string]string{
		"": "", "<!ENTITY e \"x\">": "", "<a/>": "<a >", "<a></a>": "<a >", "<a ": "", "<a k=\"v\" ": "", "<a>x<b ": `<a "x"`, "<a></a ": "<a", "<a><b/>x</a ": `<a <b > "x"`, "<!ENTITY e \"x\" ": "",
	} {
		syntax.Eventually(t, text, "", want)
		for i := range blank {
			syntax.Eventually(t, text, blank[i:i+1], want)
		}
	}
	for text, want := range map[string]string{"<a>": "<a", "<a/": "<a", "<a k=\"v\"/": `<a @k="v"`, "<a>x<": `<a "x"`, "<a><b/": "<a <b", "<a><b/>x": "<a <b >", "<a><b></b>": "<a <b >"} {
		syntax.Eventually(t, text, "", want)
	}
}

// TestOnlyClose holds what only Close shows: that the text has ended.
func TestOnlyClose(t *testing.T) {
	syntax.OnlyClose(t, "", "", "", api.ErrSyntax, 0)
	syntax.OnlyClose(t, " \n", "", "", api.ErrSyntax, 2)
	syntax.OnlyClose(t, "<a", "", "", api.ErrSyntax, 2)
	syntax.OnlyClose(t, "<a/", "<a", "", api.ErrSyntax, 3)
	syntax.OnlyClose(t, "<a/>", "<a >", "", api.OK, 4)
	syntax.OnlyClose(t, "<a/> ", "<a >", "", api.OK, 5)
	syntax.OnlyClose(t, "<a>x", "<a", "", api.ErrSyntax, 4)
	syntax.OnlyClose(t, "<a>&lt", "<a", "", api.ErrSyntax, 6)
	syntax.OnlyClose(t, "<a>x</b", `<a "x"`, "", api.ErrSyntax, 7)
	syntax.OnlyClose(t, "<a p:k=\"1\"", "", "", api.ErrSyntax, 10)
	syntax.OnlyClose(t, "<!ENTITY lt \"\"", "", "", api.ErrSyntax, 14)
	syntax.OnlyClose(t, "<a>\xc3", "<a", "", api.ErrUTF, 4)
	syntax.OnlyClose(t, "<a k=\"\xe2\x82", "", "", api.ErrUTF, 8)
}

func TestFedBehindError(t *testing.T) {
	for _, text := range []string{"<a/>x", "<a></b>", "<a>&x;", "<a>\xff", "<p:a/>", "<a>" + x[:49], "<a k=\"1\" k=\"2\"/>", "<!ENTITY lt \"\"><a/>"} {
		syntax.FedBehind(t, text+" ", "", "</a>", "\xff", "<a/>", "\"", "&lt;", ">", strings.Repeat("<", 99))
	}
}

func TestIndependent(t *testing.T) {
	syntax.Independent(t, "<!ENTITY e \"x\"><a k=\"&e;\">&e;</a>", "<!ENTITY e \"y\"><b>&e;</b>", "<a>&e;</a>", "<p:a xmlns:p=\"u\"><p:b/></p:a>", "<p:a xmlns:p=\"v\"><p:b/></p:a>", "<p:a/>      ", "<a><b></c>", "<a k=\"1\" k=\"2\"/>")
}

func TestAnswerIsKept(t *testing.T) {
	syntax.Kept(t, "<!ENTITY abc \"def\"><g:hi jkl=\"mno&abc;\" xmlns:g=\"pqr\">&abc;<stu/>vwx</g:hi>", "<!ENTITY ABC \"DEF\"><G:HI JKL=\"MNO&ABC;\" xmlns:G=\"PQR\">&ABC;<STU/>VWX</G:HI>")
}

// TestLongText holds texts with many events, fed whole and in pieces.
func TestLongText(t *testing.T) {
	row := "<p:row id=\"10\" p:k=\"&lt;&quot;\">x\n<b xmlns=\"v\"><c/></b>&amp;<d></d ></p:row>\n"
	want := ` <{u}row @id="10" @{u}k="<\"" "x\n" <{v}b <{v}c > > "&" <d > > "\n"`
	text := "<a xmlns:p=\"u\">" + strings.Repeat(row, 3000) + "</a>"
	syntax.Long(t, text, "<a"+strings.Repeat(want, 3000)+" >")
	if r := syntax.Read(t, text+"x"); len(r.Events) != 2+3000*13 || r.Err != api.ErrSyntax || r.At != len(text) {
		t.Error(len(r.Events), r.Err, r.At)
	}
	syntax.Long(t, "<a>"+strings.Repeat("<b/>", 5000)+"</a>", "<a"+strings.Repeat(" <b >", 5000)+" >")
	blanks := strings.Repeat(blank, 5000)
	syntax.Long(t, blanks+"<!ENTITY e \"x\""+blanks+">"+blanks+"<a"+blanks+"k=\"&e;\""+blanks+"></a"+blanks+">"+blanks, `<a @k="x" >`)
}
