package angle_test

import (
	"strconv"
	"strings"
	"testing"

	"hexapla/api"
)

// defining returns a definition.
func defining(name, text string) string { return "<!ENTITY " + name + " \"" + text + "\">" }

func TestDefinitions(t *testing.T) {
	good(t, "<a >", "<a/>")
	good(t, `<a "x" >`, defining("b", "x")+"<a>&b;</a>")
	good(t, `<a @k="xy" "yx" >`, defining("b", "x")+defining("c", "y")+"<a k=\"&b;&c;\">&c;&b;</a>")
	good(t, `<a "1" >`, defining("b", "")+defining("c", "1")+defining("d", "")+"<a>&b;&c;&d;</a>")
	good(t, "<a >", defining("b", "x")+"<a/>") // of which nothing is asked
}

// TestDefinedBefore holds that each text is expanded with what was defined before
// it, and only once.
func TestDefinedBefore(t *testing.T) {
	good(t, `<a "xyxyz" >`, defining("b", "x")+defining("c", "&b;y")+defining("d", "&c;&c;z")+"<a>&d;</a>")
	good(t, `<a "<&\">" >`, defining("b", "&lt;&amp;&quot;&gt;")+"<a>&b;</a>")
	good(t, `<a "&lt;" >`, defining("b", "&amp;lt;")+"<a>&b;</a>")
	good(t, `<a "&c;" >`, defining("b", "&amp;c;")+defining("c", "x")+"<a>&b;</a>")
	good(t, `<a "<b/>" >`, defining("b", "&lt;b/>")+"<a>&b;</a>")
	good(t, `<a @k="\"" >`, defining("b", "&quot;")+"<a k=\"&b;\"/>")
	last(t, "", api.ErrEntity, "<!ENTITY b \"&b;", "<!ENTITY b \"x&b;", defining("b", "x")+"<!ENTITY c \"&c;", "<!ENTITY b \"&c;", defining("b", "x")+"<!ENTITY c \"&b;&d;")
	syntax.Check(t, defining("b", "&c;")+defining("c", "x")+"<a/>", "", api.ErrEntity, 14)
	full := x[:16]
	good(t, "<a "+strconv.Quote(x[:48])+" >", defining("b", full)+defining("c", "&b;&b;&b;")+"<a>&c;</a>")
	last(t, "", api.ErrToken, defining("b", full)+defining("d", "x")+"<!ENTITY c \"&b;&b;&b;x", defining("b", full)+defining("d", "x")+"<!ENTITY c \"&b;&b;&b;&d;")
}

// TestDefine holds the errors at the end of a definition, and not ahead of it.
func TestDefine(t *testing.T) {
	for _, name := range []string{"lt", "gt", "amp", "quot"} {
		for _, text := range []string{"", "x", "&lt;", x[:48]} {
			last(t, "", api.ErrTwice, defining(name, text), "<!ENTITY "+name+" \""+text+"\" \n>", define+defining(name, text))
			open(t, "", "<!ENTITY "+name+" \""+text+"\"", "<!ENTITY "+name+" \""+text+"\"\t")
			last(t, "", api.ErrSyntax, "<!ENTITY "+name+" \""+text+"\"/")
		}
	}
	last(t, "", api.ErrTwice, defining("b", "x")+defining("b", "x"), defining("b", "x")+defining("b", "y"), defining("b", "x")+defining("c", "y")+defining("b", ""), defining("b", "x")+defining("b", "&b;"), defining(n[:16], "x")+defining(n[:16], "y"))
	good(t, `<a "xyz" >`, defining("b", "x")+defining("B", "y")+defining("bb", "z")+"<a>&b;&B;&bb;</a>")
	good(t, `<a "12345" >`, defining("LT", "1")+defining("Lt", "2")+defining("l", "3")+defining("ltt", "4")+defining("apos", "5")+"<a>&LT;&Lt;&l;&ltt;&apos;</a>")
}

// TestSpace holds how much may be defined: 200 bytes of names and texts.
func TestSpace(t *testing.T) {
	three := defining("b", x[:48]) + defining("c", x[:48]) + defining("d", x[:48]) // 147
	for _, l := range []struct {
		name string
		left int // bytes of a text
	}{{"e", 4}, {"ee", 3}, {"eeee", 1}, {"eeeee", 0}} {
		ahead := three + defining("z", x[:47]) // 195
		good(t, "<a >", ahead+defining(l.name, x[:l.left])+"<a/>")
		last(t, "", api.ErrEntitySpace, ahead+defining(l.name, x[:l.left+1]), ahead+"<!ENTITY "+l.name+" \""+x[:l.left+1]+"\"\r>", ahead+defining(l.name, x[:48]))
		last(t, "", api.ErrEntitySpace, ahead+defining(l.name, x[:l.left])+defining("y", ""))
		last(t, "", api.ErrTwice, ahead+defining("b", x[:48]), ahead+defining(l.name, "")+defining(l.name, x[:48]))
		open(t, "", ahead+"<!ENTITY "+l.name+" \""+x[:l.left+1]+"\"")
	}
	// What counts is the expansion.
	good(t, "<a >", three+defining("e", strings.Repeat("&lt;", 48))+defining("f", "&lt;&lt;&lt;")+"<a/>")
	last(t, "", api.ErrEntitySpace, three+defining("e", strings.Repeat("&lt;", 48))+defining("f", "&lt;&lt;&lt;&lt;"))
	good(t, "<a >", three+defining("e", "x")+defining("f", "&d;")+defining("g", "x")+"<a/>")
	last(t, "", api.ErrEntitySpace, three+defining("e", "x")+defining("f", "&d;")+defining("g", "&e;&e;"))
	// Names count by themselves.
	good(t, "<a >", rows(70, "<!ENTITY e# \"\">")+"<a/>")
	last(t, "", api.ErrEntitySpace, rows(71, "<!ENTITY e# \"\">"))
}

// TestMark holds each byte of what a definition begins with.
func TestMark(t *testing.T) {
	mark, unended := "<!ENTITY e", "<!ENTITY e \"x\""
	for i := 2; i < 9; i++ {
		for _, no := range []string{"x", " ", "<", ">", "\t", strings.ToLower(mark[i : i+1]), mark[i+1 : i+2], "\xc3"} {
			if no != mark[i:i+1] {
				last(t, "", api.ErrSyntax, mark[:i]+no, define+mark[:i]+no)
			}
		}
		last(t, "", api.ErrUTF, mark[:i]+"\xff")
	}
	last(t, "", api.ErrSyntax, "<!ENTITY  ", "<!ENTITY \t", "<!ENTITY\t", "<!ENTITY\n", "<!ENTITYe", "< ", "<! ", "<!E ", "<!-", "<!D", "<?", "<!ENTITY \"", "<!ENTITY %", "<!ENTITY 1", "<!ENTITY &")
	last(t, "", api.ErrSyntax, "<!ENTITY e  ", "<!ENTITY e\t", "<!ENTITY e\n", "<!ENTITY e\"", "<!ENTITY e '", "<!ENTITY e x", "<!ENTITY e >", "<!ENTITY e:", "<!ENTITY e=", "<!ENTITY e>", "<!ENTITY e/")
	last(t, "", api.ErrSyntax, unended+"/", unended+"\"", unended+"x", unended+" x", unended+"<", unended+" /")
	// None stands within or behind the element.
	last(t, "<a", api.ErrSyntax, "<a><!", define+"<a><!")
	last(t, "<a <b >", api.ErrSyntax, "<a><b/><!")
	last(t, "<a >", api.ErrSyntax, "<a/><", "<a/> <")
	syntax.Check(t, "<a>"+define+"</a>", "<a", api.ErrSyntax, 4)
}
