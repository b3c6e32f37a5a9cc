package angle_test

import (
	"strconv"
	"strings"
	"testing"

	"hexapla/api"
)

// attrs returns the text of some attributes, k0 and so on, and their events.
func attrs(count int) (string, string) {
	return rows(count, " k#=\"v\""), strings.TrimSpace(rows(count, `@k#="v" `))
}

// bindings returns the text of some bindings, of p0 and so on.
func bindings(count int) string { return rows(count, " xmlns:p#=\"u#\"") }

func TestAttrs(t *testing.T) {
	for count := 1; count <= 10; count++ {
		text, want := attrs(count)
		good(t, "<a "+want+" >", "<a"+text+"/>", "<a"+text+"></a>", "<a"+text+"\n/>", "<a"+text+"\t></a>")
		good(t, "<a "+want+" <a "+want+" > <a "+want+" > >", "<a"+text+"><a"+text+"/><a"+text+"></a></a>") // each has its own
		open(t, "", "<a"+text, "<a"+text+" ")
		open(t, "<a "+want, "<a"+text+"/", "<a"+text+">")
		for i := range count {
			twice := text + " k" + strconv.Itoa(i) + "=\"\""
			last(t, "<a "+want, api.ErrTwice, "<a"+twice+"/", "<a"+twice+">", "<a"+twice+" l=\"\" >")
			open(t, "", "<a"+twice)
		}
	}
	text, want := attrs(10)
	for _, more := range []string{" k10=\"v\"", " l=\"\"", " p:k0=\"\" xmlns:p=\"u\"", " xmlns:p=\"u\" p:l=\"\""} {
		last(t, "<a "+want, api.ErrFields, "<a"+text+more+"/", "<a"+text+more+">", "<a"+text+more+"\r>")
		open(t, "", "<a"+text+more)
	}
}

// TestValues holds values, and the order of attributes.
func TestValues(t *testing.T) {
	good(t, `<a @b="" @a="x y" @c="<" @B="b" >`, "<a b=\"\" a=\"x y\" c=\"&lt;\" B=\"b\"/>")
	good(t, `<k @k="k" <k @k="k" > >`, "<k k=\"k\"><k k=\"k\"/></k>")
	last(t, "", api.ErrSyntax, "<a k='", "<a k=v", "<a k= ", "<a k ", "<a k/", "<a k>", "<a k\n", "<a k\"", "<a k=\"v\"\"", "<a k=\"v\"=", "<a k==", "<a =", "<a \"", "<a 1", "<a k-=v", "<a k=\"<", "<a k=\"v\"&", "<a k&")
	syntax.Check(t, "<a b=\"x\"c=\"y\"/>", "", api.ErrSyntax, 8) // no blank ahead
	syntax.Check(t, "<a b=\"x\" c=\"y\"d=\"z\"/>", "", api.ErrSyntax, 14)
	last(t, "", api.ErrSyntax, "<a\"", "<a=", "<a<", "<a&")
	for _, blank := range blanks {
		good(t, `<a @b="x" @c="y" >`, "<a"+blank+"b=\"x\""+blank+"c=\"y\"/>", "<a"+blank+"b=\"x\""+blank+"c=\"y\""+blank+"></a>")
	}
}

// TestCount holds that a tag has at most 20 attributes, bindings among them. More
// than ten of either kind are met at its end.
func TestCount(t *testing.T) {
	for count := range 21 {
		bound := bindings(count)
		text, _ := attrs(20 - count)
		for _, twenty := range []string{bound + text, text + bound} {
			switch _, ten := attrs(10); {
			case count > 10: // bound
				last(t, "", api.ErrFields, "<a"+twenty+"/", "<a"+twenty+" >")
			case count < 10:
				last(t, "<a "+ten, api.ErrFields, "<a"+twenty+"/", "<a"+twenty+">")
			default:
				good(t, "<a "+ten+" >", "<a"+twenty+"/>", "<a"+twenty+" ></a>")
			}
			for _, name := range []string{"l", "p0:k", "xmlns", "xmlns:q"} {
				last(t, "", api.ErrFields, "<a"+twenty+" "+name+"=")
				open(t, "", "<a"+twenty+" "+name)
				last(t, "", api.ErrSyntax, "<a"+twenty+" "+name+" ", "<a"+twenty+" "+name+">", "<a"+twenty+" "+name+"\"")
			}
			last(t, "", api.ErrSyntax, "<a"+twenty+" k:=", "<a"+twenty+" =", "<a"+twenty+"k")
			last(t, "", api.ErrToken, "<a"+twenty+" "+n[:17])
		}
	}
	// Each tag has its own.
	text, ten := attrs(10)
	text = "<a" + text + bindings(10)
	good(t, "<a "+ten+" <a "+ten+" > <a "+ten+" > >", text+">"+text+"/>"+text+"></a></a>")
	last(t, "<a "+ten+" <a "+ten+" >", api.ErrFields, text+">"+text+"/>"+text+" l=")
}

// TestTwice holds which attributes are the same: those with one full name.
func TestTwice(t *testing.T) {
	bound := " xmlns:p=\"u\" xmlns:q=\"u\" xmlns:r=\"v\""
	good(t, `<a @k="1" @{u}k="2" @{v}k="3" @K="4" >`, "<a"+bound+" k=\"1\" p:k=\"2\" r:k=\"3\" K=\"4\"/>", "<a k=\"1\" p:k=\"2\" r:k=\"3\" K=\"4\""+bound+"></a>")
	good(t, `<{u}k @k="1" @{u}k="2" >`, "<k xmlns=\"u\""+bound+" k=\"1\" q:k=\"2\"/>") // without a prefix, in no namespace
	good(t, `<a @p="1" @q="2" >`, "<a"+bound+" p=\"1\" q=\"2\"/>")
	for _, end := range []string{"/", ">", " >"} {
		last(t, `<a @{u}k="1"`, api.ErrTwice, "<a"+bound+" p:k=\"1\" p:k=\"1\""+end, "<a"+bound+" p:k=\"1\" q:k=\"2\""+end, "<a q:k=\"1\" p:k=\"2\""+bound+end)
		last(t, `<a @{u}k="1" @k="2" @{v}k="3"`, api.ErrTwice, "<a"+bound+" p:k=\"1\" k=\"2\" r:k=\"3\" q:k=\"4\""+end)
		last(t, `<a @k="1"`, api.ErrTwice, "<a"+bound+" k=\"1\" k=\"1\""+end, "<a k=\"1\""+bound+" k=\"2\""+end)
		last(t, `<a <a @{u}k="1"`, api.ErrTwice, "<a"+bound+"><a p:k=\"1\" q:k=\"2\""+end)
	}
	text, ten := attrs(10)
	last(t, "<a "+ten, api.ErrTwice, "<a"+text+" k3=\"\"/") // which is an eleventh, too
}
