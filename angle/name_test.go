package angle_test

import (
	"testing"

	"hexapla/api"
)

// locals are local names.
var locals = []string{"a", "Z", "_", "a1", "A1-._", "a-", "a.", "xml", "xmlnsx", "XMLNS", "ENTITY", "lt", n[:15], n[:16]}

func TestNames(t *testing.T) {
	for _, name := range locals {
		good(t, "<"+name+" >", "<"+name+"/>", "<"+name+"></"+name+">", "<"+name+" ></"+name+" >")
		good(t, "<{u}"+name+" >", "<"+name+" xmlns=\"u\"/>", "<p:"+name+" xmlns:p=\"u\"/>", "<p:"+name+" xmlns:p=\"u\"></p:"+name+">")
		good(t, "<a @{u}"+name+`="v" >`, "<a p:"+name+"=\"v\" xmlns:p=\"u\"/>")
		good(t, `<{u}a @{u}b="v" <{u}c > >`, "<"+name+":a xmlns:"+name+"=\"u\" "+name+":b=\"v\"><"+name+":c/></"+name+":a>") // a prefix
		good(t, "<a @"+name+`="v" >`, "<a "+name+"=\"v\"/>", "<a "+name+"=\"v\"></a>")
		good(t, `<a @k1="v" @`+name+`="" >`, "<a k1=\"v\" "+name+"=\"\"/>")
	}
}

// TestLongNames holds names of 17 bytes: the last one is too much, wherever the
// name stands.
func TestLongNames(t *testing.T) {
	for _, l := range []struct{ text, want string }{
		{"<", ""}, {"<p:", ""}, {"<" + n[:16] + ":", ""}, {"<a ", ""}, {"<a k=\"v\"\n", ""}, {"<a p:", ""}, {"<a " + n[:16] + ":", ""}, {"<a xmlns:", ""}, {"<a></", "<a"}, {"<a></a:", "<a"}, {"<a></" + n[:16] + ":", "<a"}, {"<a>x<", `<a "x"`}, {"<a><b:", "<a"}, {"<!ENTITY ", ""}, {define + "<!ENTITY ", ""},
	} {
		for _, begin := range []string{"a", "Z", "_"} {
			for i := range within {
				last(t, l.want, api.ErrToken, l.text+begin+n[:15]+within[i:i+1])
			}
			open(t, l.want, l.text+begin+n[:15])
			last(t, l.want, api.ErrUTF, l.text+begin+n[:15]+"\xff")
			last(t, l.want, api.ErrSyntax, l.text+begin+n[:15]+"\xc3", l.text+begin+n[:15]+"&", l.text+begin+n[:15]+"<", l.text+begin+n[:15]+"\"")
		}
		syntax.Check(t, l.text+n, l.want, api.ErrToken, len(l.text)+16)
	}
	good(t, "<{u}"+n[:16]+" @{u}"+n[:16]+`="v" "x" >`, "<!ENTITY "+n[:16]+" \"x\"><"+n[:16]+":"+n[:16]+" "+n[:16]+":"+n[:16]+"=\"v\" xmlns:"+n[:16]+"=\"u\">&"+n[:16]+";</"+n[:16]+":"+n[:16]+">")
}

// TestColons asks for names with colons where none may be.
func TestColons(t *testing.T) {
	last(t, "", api.ErrSyntax, "<:", "<a::", "<a:b:", "<a:/", "<a:>", "<a: ", "<a:1", "<a:-", "<a:&", "<a :", "<a:b;")
	last(t, "", api.ErrSyntax, "<a :", "<a k::", "<a k:=", "<a k: ", "<a k:/", "<a k:>", "<a k:l:", "<a xmlns:=", "<a xmlns::", "<a xmlns:p:", "<a k:1", "<a k:l ", "<a k:l/")
	last(t, "<a", api.ErrSyntax, "<a></:", "<a></a:>", "<a></a: ", "<a></a::", "<a></a:b:", "<a></a:/", "<a><:", "<a><b:>")
	last(t, "", api.ErrSyntax, "<!ENTITY :", "<!ENTITY e:")
	last(t, "<a", api.ErrSyntax, "<a>&:", "<a>&e:")
	last(t, "", api.ErrSyntax, "<!ENTITY e \"&f:")
}

// TestFullNames holds how long a full name may be: 48 bytes.
func TestFullNames(t *testing.T) {
	for _, l := range []struct{ space, local string }{{u[:30], n[:16]}, {u[:31], n[:15]}, {u[:45], "n"}, {u[:28] + "é", n[:16]}} {
		full, more := "{"+l.space+"}"+l.local, l.space+"u"
		bound := " xmlns=\"" + l.space + "\" xmlns:p=\"" + l.space + "\""
		good(t, "<"+full+" >", "<"+l.local+bound+"/>", "<p:"+l.local+bound+"/>")
		good(t, "<b @"+full+`="v" >`, "<b xmlns:p=\""+l.space+"\" p:"+l.local+"=\"v\"/>")
		bound = " xmlns=\"" + more + "\" xmlns:p=\"" + more + "\""
		for _, end := range []string{"/", ">"} {
			last(t, "", api.ErrName, "<"+l.local+bound+end, "<p:"+l.local+bound+end, "<p:"+l.local+bound+" "+l.local+"=\"v\""+end)
			last(t, "<b", api.ErrName, "<b xmlns:p=\""+more+"\" p:"+l.local+"=\"v\""+end, "<b xmlns:p=\""+more+"\" p:"+l.local+"=\"v\" k=\"v\""+end)
			last(t, `<b @k="v"`, api.ErrName, "<b xmlns:p=\""+more+"\" k=\"v\" p:"+l.local+"=\"v\""+end)
			last(t, "<b <c", api.ErrName, "<b xmlns:p=\""+more+"\"><c p:"+l.local+"=\"v\""+end)
			last(t, "<b", api.ErrName, "<b xmlns:p=\""+more+"\"><p:"+l.local+end)
		}
	}
	// A namespace that no name is in may be as long as any.
	good(t, `<a @k="v" >`, "<a xmlns:p=\""+u[:48]+"\" k=\"v\"/>")
	good(t, "<{u}a >", "<p:a xmlns=\""+u[:48]+"\" xmlns:p=\"u\"/>")
	last(t, "", api.ErrName, "<a xmlns=\""+u[:48]+"\"/", "<a xmlns=\""+u[:46]+"\"/")
	last(t, "", api.ErrToken, "<a xmlns:p=\""+u[:49], "<a xmlns=\""+u[:49])
}
