package angle_test

import (
	"strings"
	"testing"

	"hexapla/api"
)

// TestEnds holds both ends of elements, with blanks ahead of them.
func TestEnds(t *testing.T) {
	for _, blank := range append(blanks, "") {
		good(t, "<a >", "<a"+blank+"/>", "<a"+blank+"></a>", "<a></a"+blank+">", "<a"+blank+"></a"+blank+">")
		good(t, `<a @k="v" >`, "<a k=\"v\""+blank+"/>", "<a k=\"v\""+blank+"></a>", "<a k=\"v\"></a"+blank+">")
		good(t, "<a <b > <b > >", "<a><b"+blank+"/><b"+blank+"></b"+blank+"></a"+blank+">")
	}
	last(t, "<a", api.ErrSyntax, "<a/ ", "<a//", "<a/x", "<a/<", "<a /\n", "<a></ ", "<a></>", "<a><//", "<a></a/", "<a></a k", "<a></a  k", "<a></a<", "<a></a\"", "<a></1", "<a>< ", "<a><>", "<a></\t", "<a></a /")
	last(t, "", api.ErrSyntax, "< ", "<>", "</", "<1", "<\n", "<a<", "<a\x00", define+"</", " </")
	last(t, `<a @k="v"`, api.ErrSyntax, "<a k=\"v\"/ ", "<a k=\"v\" /k")
}

// TestEndNames holds end tags whose name is not that of the element, as it is
// written.
func TestEndNames(t *testing.T) {
	bound := " xmlns:p=\"u\" xmlns:q=\"u\" xmlns=\"u\""
	for _, blank := range []string{"", " ", "\r\n\t"} {
		for _, name := range []string{"b", "A", "aa", "a.", "a-", "_", "p:a", "a:a", n[:16], "xmlns"} {
			last(t, "<a", api.ErrName, "<a></"+name+blank+">")
			last(t, "<a <b >", api.ErrName, "<a><b></b></"+name+blank+">", "<a><b/></"+name+blank+">")
			last(t, `<a <b > "x"`, api.ErrName, "<a><b></b>x</"+name+blank+">")
			open(t, "<a", "<a></"+name+blank) // not yet
		}
		last(t, "<{u}a", api.ErrName, "<a"+bound+"></p:a"+blank+">", "<a"+bound+"></q:a"+blank+">", "<p:a"+bound+"></a"+blank+">", "<p:a"+bound+"></q:a"+blank+">", "<p:a"+bound+"></p:b"+blank+">", "<p:a"+bound+"></p"+blank+">", "<a"+bound+"></b"+blank+">") // also where the full name is the same
		good(t, "<{u}a >", "<a"+bound+"></a"+blank+">", "<p:a"+bound+"></p:a"+blank+">", "<q:a"+bound+"></q:a"+blank+">")
		last(t, "<a <b", api.ErrName, "<a><b></a"+blank+">", "<a><b></c"+blank+">")
		last(t, "<a <a >", api.ErrName, "<a><a></a></b"+blank+">")
		last(t, "<a <b", api.ErrSyntax, "<a><b></a"+blank+"/", "<a><b></c"+blank+"<")
	}
}

// TestText holds the raw text between two tags: one Text, unless it is empty.
func TestText(t *testing.T) {
	ahead := "<!ENTITY e \"\"><!ENTITY f \"x\">"
	for raw, want := range map[string]string{
		"": "", "&e;": "", "&e;&e;&e;": "", "x": ` "x"`, "&f;": ` "x"`, "&lt;": ` "<"`, "&f;&e;&lt;": ` "x<"`, " ": ` " "`, "\n": ` "\n"`, "&e; ": ` " "`, "x&f;y": ` "xxy"`, "\"": ` "\""`, ">": ` ">"`, "é": ` "é"`,
	} {
		good(t, "<a"+want+" >", ahead+"<a>"+raw+"</a>")
		good(t, "<a"+want+" <b > >", ahead+"<a>"+raw+"<b/></a>", ahead+"<a>"+raw+"<b></b></a>")
		good(t, "<a <b >"+want+" >", ahead+"<a><b/>"+raw+"</a>", ahead+"<a><b></b>"+raw+"</a>")
		good(t, "<a <b"+want+" > >", ahead+"<a><b>"+raw+"</b></a>")
		good(t, "<a"+want+" <b"+want+" >"+want+" <b >"+want+" >", ahead+"<a>"+raw+"<b>"+raw+"</b>"+raw+"<b/>"+raw+"</a>")
		good(t, `<a @k="v"`+want+" >", ahead+"<a k=\"v\">"+raw+"</a>")
		open(t, "<a", ahead+"<a>"+raw)
		open(t, "<a"+want, ahead+"<a>"+raw+"<", ahead+"<a>"+raw+"</", ahead+"<a>"+raw+"<b", ahead+"<a>"+raw+"</a")
		last(t, "<a"+want, api.ErrSyntax, ahead+"<a>"+raw+"<1", ahead+"<a>"+raw+"<!", ahead+"<a>"+raw+"<?", ahead+"<a>"+raw+"<<", ahead+"<a>"+raw+"<&")
	}
	good(t, `<a "x" <b > "y" <c "z" > "x" >`, "<a>x<b/>y<c>z</c>x</a>")
}

// chain opens elements in one another, a of each count, and returns the events.
func chain(count int) (string, string) {
	return strings.Repeat("<a>", count), strings.TrimSpace(strings.Repeat("<a ", count))
}

func TestDepth(t *testing.T) {
	for count := 1; count <= 6; count++ {
		text, want := chain(count)
		good(t, want+strings.Repeat(" >", count), text+strings.Repeat("</a>", count), text[:len(text)-1]+"/>"+strings.Repeat("</a>", count-1))
		good(t, want+` "x"`+strings.Repeat(" >", count), text+"x"+strings.Repeat("</a>", count))
		open(t, want, text)
	}
	for _, end := range []string{"/", ">", " /", " >", " k=\"v\"/", " k=\"v\" >"} {
		last(t, sixWant, api.ErrDepth, six+"<g"+end, six+"<f"+end)
		last(t, sixWant+` "x"`, api.ErrDepth, six+"x<g"+end)
		last(t, sixWant+" > <f", api.ErrDepth, six+"</f><f><g"+end)
	}
	open(t, sixWant, six+"<g", six+"<g ", six+"<g k=\"v\"")
	last(t, sixWant, api.ErrSyntax, six+"<g=", six+"<!")
}

// TestDepthAgain holds that elements that have ended do not count.
func TestDepthAgain(t *testing.T) {
	text, want := chain(5)
	good(t, want+strings.Repeat(" <b > <c > <d >", 10)+strings.Repeat(" >", 5), text+strings.Repeat("<b/><c></c><d\n/>", 10)+strings.Repeat("</a>", 5))
	good(t, "<r"+strings.Repeat(" "+want+strings.Repeat(" >", 5), 10)+" >", "<r>"+strings.Repeat(text+strings.Repeat("</a>", 5), 10)+"</r>")
	last(t, want+" <b > <c > <d", api.ErrDepth, text+"<b/><c></c><d><e/")
	last(t, "<r "+want+strings.Repeat(" >", 5)+" "+want, api.ErrDepth, "<r>"+text+strings.Repeat("</a>", 5)+text+"<b>")
}
