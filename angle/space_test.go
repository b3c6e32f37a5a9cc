package angle_test

import (
	"testing"

	"hexapla/api"
)

// TestBindings holds the namespaces of elements and attributes, with a prefix and
// without.
func TestBindings(t *testing.T) {
	good(t, "<{u}a >", "<a xmlns=\"u\"/>", "<p:a xmlns:p=\"u\"/>", "<p:a xmlns=\"v\" xmlns:p=\"u\"/>", "<p:a xmlns:p=\"u\" xmlns=\"\"/>", "<a xmlns:p=\"v\" xmlns=\"u\"></a>")
	good(t, "<a >", "<a xmlns=\"\"/>", "<a xmlns:p=\"u\"/>", "<a xmlns:a=\"u\"></a>", "<a xmlns=\"\" xmlns:p=\"u\" xmlns:q=\"u\"/>")
	good(t, `<{u}a @k="v" >`, "<a k=\"v\" xmlns=\"u\"/>", "<a xmlns=\"u\" k=\"v\"></a>", "<p:a k=\"v\" xmlns:p=\"u\"/>", "<p:a k=\"v\" xmlns:p=\"u\" xmlns=\"w\"/>")
	good(t, `<{u}a @{v}k="1" @k="2" @{u}k="3" >`, "<p:a q:k=\"1\" k=\"2\" p:k=\"3\" xmlns:p=\"u\" xmlns:q=\"v\"/>", "<a xmlns=\"u\" xmlns:p=\"u\" xmlns:q=\"v\" q:k=\"1\" k=\"2\" p:k=\"3\"/>")
	good(t, `<a @{http://u/#é}k="v" >`, "<a xmlns:p=\"http://u/#é\" p:k=\"v\"/>")
	good(t, `<{hi!}a @{hi}k="v" >`, define+another+"<a xmlns=\"&f;\" p:k=\"v\" xmlns:p=\"&e;\"/>") // the expansion counts
	good(t, "<a >", define+"<!ENTITY n \"\"><a xmlns=\"&n;\"/>")
	good(t, `<{u}xmlns @{u}xmlns="v" >`, "<p:xmlns p:xmlns=\"v\" xmlns:p=\"u\"/>")
	good(t, `<{u}a @{u}k="v" <xmlns > >`, "<xmlns:a xmlns:xmlns=\"u\" p:k=\"v\" xmlns:p=\"u\"><xmlns/></xmlns:a>")
	good(t, `<a @Xmlns="u" @{v}xmlns="w" >`, "<a Xmlns=\"u\" p:xmlns=\"w\" xmlns:p=\"v\"/>")
}

// TestInner holds bindings within others, and that they are left behind their
// element.
func TestInner(t *testing.T) {
	good(t, "<{u}a <{u}b > <{u}b > >", "<a xmlns=\"u\"><b/><b></b></a>", "<p:a xmlns:p=\"u\"><p:b/><p:b></p:b></p:a>", "<p:a xmlns:p=\"u\"><b xmlns=\"u\"/><q:b xmlns:q=\"u\"/></p:a>")
	good(t, "<{u}a <{v}b <{v}c > > <{u}d > >", "<a xmlns=\"u\"><b xmlns=\"v\"><c/></b><d/></a>", "<p:a xmlns:p=\"u\"><p:b xmlns:p=\"v\"><p:c/></p:b><p:d/></p:a>")
	good(t, "<{u}a <{v}b > <{u}d > >", "<a xmlns=\"u\"><b xmlns=\"v\"/><d/></a>", "<p:a xmlns:p=\"u\"><p:b xmlns:p=\"v\"/><p:d/></p:a>", "<p:a xmlns:p=\"u\"><p:b xmlns:p=\"v\"></p:b><p:d/></p:a>")
	good(t, "<{u}a <b <c > > <{u}d > >", "<a xmlns=\"u\"><b xmlns=\"\"><c/></b><d/></a>", "<p:a xmlns:p=\"u\"><b><c/></b><p:d/></p:a>")
	good(t, "<a <{u}b > <c > >", "<a><b xmlns=\"u\"/><c/></a>", "<a><b xmlns=\"u\"></b><c/></a>")
	good(t, "<{u}a <b <{u}c > > <{u}d > >", "<a xmlns=\"u\"><b xmlns=\"\"><c xmlns=\"u\"/></b><d/></a>")
	good(t, `<a <b @{u}k="1" <c @{u}k="2" > <d @{v}k="3" > > >`, "<a xmlns:p=\"u\"><b p:k=\"1\"><c p:k=\"2\"/><d xmlns:p=\"v\" p:k=\"3\"/></b></a>")
	good(t, "<{1}a <{2}a <{3}a <{4}a <{5}a <{6}a > <{5}a > > > > > <{1}a > >",
		"<a xmlns=\"1\"><a xmlns=\"2\"><a xmlns=\"3\"><a xmlns=\"4\"><a xmlns=\"5\"><a xmlns=\"6\"/><a/></a></a></a></a><a/></a>")
	good(t, `<a <{u}b @{u}k="" > <{v}b @{v}k="" > >`, "<a><p:b xmlns:p=\"u\" p:k=\"\"/><p:b xmlns:p=\"v\" p:k=\"\"/></a>")
	text := bindings(10) // each element may have so many
	good(t, "<{u0}a <{u9}b > >", "<p0:a"+text+"><p9:b"+text+"/></p0:a>", "<p0:a"+text+"><p9:b xmlns=\"w\" xmlns:q=\"x\"></p9:b></p0:a>")
}

// TestUnbound asks for prefixes that are not bound there.
func TestUnbound(t *testing.T) {
	for _, end := range []string{"/", ">", "\n/", " >"} {
		last(t, "", api.ErrName, "<p:a"+end, "<p:a k=\"v\""+end, "<p:a xmlns=\"u\""+end, "<p:a xmlns:q=\"u\""+end, "<p:a xmlns:P=\"u\""+end, "<xmlns:a"+end, "<p:a a:xmlns=\"u\""+end)
		last(t, "<a", api.ErrName, "<a p:k=\"v\""+end, "<a p:k=\"v\" l=\"w\""+end, "<a xmlns:q=\"u\" p:k=\"v\""+end, "<a p:xmlns=\"u\""+end)
		last(t, `<{u}a @k="1"`, api.ErrName, "<a xmlns=\"u\" k=\"1\" p:k=\"2\" l=\"3\""+end)
		last(t, "<a", api.ErrName, "<a><p:b"+end, "<a xmlns:q=\"u\"><p:b"+end)
		last(t, "<a <b", api.ErrName, "<a><b p:k=\"\""+end)
		last(t, "<a <b >", api.ErrName, "<a><b xmlns:p=\"u\"/><p:c"+end, "<a><b xmlns:p=\"u\"></b><p:c"+end) // bound no more
		last(t, "<a <b > <c", api.ErrName, "<a><b xmlns:p=\"u\"/><c p:k=\"\""+end)
	}
}

// TestNoNamespaces binds what may not be bound.
func TestNoNamespaces(t *testing.T) {
	for _, end := range []string{"/", ">", " /", "\t>"} {
		for _, space := range []string{" ", "u v", "u ", " u", "\t", "\n", "u\r", "{", "}", "{u}", "u}", "&lt;", "u&gt;", "&amp;", "&quot;u", ">", "\\", "u\\v"} {
			last(t, "", api.ErrName, "<a xmlns=\""+space+"\""+end, "<a xmlns:p=\""+space+"\""+end, "<a xmlns:q=\"u\" k=\"v\" xmlns:p=\""+space+"\""+end)
			last(t, "<a", api.ErrName, "<a><b xmlns:p=\""+space+"\""+end)
		}
		last(t, "", api.ErrName, "<a xmlns:p=\"\""+end, "<a xmlns:xmlns=\"\""+end, "<a xmlns=\"\" xmlns:p=\"\""+end, "<!ENTITY n \"\"><a xmlns:p=\"&n;\""+end)
		last(t, "<a", api.ErrName, "<a xmlns:p=\"u\"><b xmlns:p=\"\""+end) // also where it is bound
	}
	good(t, "<{x#/[!é\x7f}a >", "<a xmlns=\"x#/[!é\x7f\"/>")
	open(t, "", "<a xmlns:p=\"\"", "<a xmlns=\"u v\" ") // not yet
}

// TestBindTwice binds a prefix twice, and more prefixes than may be.
func TestBindTwice(t *testing.T) {
	ten := bindings(10)
	for _, end := range []string{"/", ">", " >"} {
		for _, twice := range []string{" xmlns=\"u\" xmlns=\"u\"", " xmlns=\"\" xmlns=\"\"", " xmlns=\"u\" k=\"v\" xmlns=\"\"", " xmlns:p=\"u\" xmlns:p=\"u\"", " xmlns:p=\"u\" xmlns=\"u\" xmlns:q=\"u\" xmlns:p=\"v\"", ten + " xmlns:p9=\"u\"", bindings(9) + " xmlns=\"u\" xmlns=\"u\""} {
			last(t, "", api.ErrTwice, "<a"+twice+end, "<p:a"+twice+end)
			last(t, "<{u}a", api.ErrTwice, "<a xmlns=\"u\" xmlns:p=\"u\"><a"+twice+end)
		}
		for _, more := range []string{" xmlns=\"u\"", " xmlns=\"\"", " xmlns:q=\"u\"", " xmlns:p10=\"u\""} {
			last(t, "", api.ErrFields, "<a"+ten+more+end, "<a k=\"v\""+ten+more+end)
			last(t, "<a", api.ErrFields, "<a><a"+ten+more+end)
		}
		good(t, "<{u}a >", "<a"+bindings(9)+" xmlns=\"u\"/>")
	}
}

// six opens as many elements as may be.
const six, sixWant = "<a><b><c><d><e><f>", "<a <b <c <d <e <f"

// TestOrder holds which of several errors is met at the end of the attributes.
func TestOrder(t *testing.T) {
	for _, end := range []string{"/", ">", " /", " >"} {
		// Bindings come first, in their order, ahead of all names.
		last(t, "", api.ErrTwice, "<a xmlns:p=\"u\" xmlns:p=\"v\" xmlns:q=\"\""+end, "<a xmlns=\"u\" xmlns=\"v\" xmlns:p=\"\""+end)
		last(t, "", api.ErrName, "<a xmlns:q=\"\" xmlns:p=\"u\" xmlns:p=\"v\""+end, "<a xmlns:p=\"u\" xmlns:p=\"\""+end, "<a"+bindings(10)+" xmlns:q=\"\""+end)
		last(t, "", api.ErrFields, "<a"+bindings(11)+" xmlns:p0=\"u\" xmlns:q=\"\""+end)
		last(t, "", api.ErrTwice, "<q:a k=\"\" k=\"\" r:k=\"\" xmlns:p=\"u\" xmlns:p=\"v\""+end)
		last(t, "", api.ErrFields, "<q:a k=\"\" k=\"\" r:k=\"\""+bindings(11)+end)
		last(t, sixWant, api.ErrTwice, six+"<q:g k=\"\" k=\"\" xmlns:p=\"u\" xmlns:p=\"v\""+end)
		last(t, sixWant, api.ErrFields, six+"<g"+bindings(11)+end)
		// Then the element.
		last(t, "", api.ErrName, "<q:a k=\"\" k=\"\""+end)
		last(t, sixWant, api.ErrName, six+"<q:g"+end, six+"<q:g k=\"\" k=\"\""+end, six+"<g xmlns=\""+u[:48]+"\""+end)
		last(t, sixWant, api.ErrDepth, six+"<g"+end, six+"<g k=\"\" k=\"\""+end, six+"<g q:k=\"\""+end, six+"<q:g xmlns:q=\"u\" k=\"v\""+end)
		// Then the attributes, in their order.
		last(t, `<a @k="1"`, api.ErrName, "<a k=\"1\" q:k=\"2\" k=\"3\""+end)
		last(t, `<a @k="1"`, api.ErrTwice, "<a k=\"1\" k=\"2\" q:k=\"3\""+end)
		text, ten := attrs(10)
		last(t, "<a "+ten, api.ErrName, "<a"+text+" q:k=\"2\" k10=\"3\""+end)
		last(t, "<a "+ten, api.ErrFields, "<a"+text+" k10=\"3\" q:k=\"2\" k0=\"4\""+end)
		last(t, "<a "+ten, api.ErrTwice, "<a"+text+" k0=\"3\" q:k=\"2\" k10=\"4\""+end)
	}
}
