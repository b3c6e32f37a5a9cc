package sections_test

import (
	"strconv"
	"strings"
	"testing"

	"hexapla/api"
)

// paths are paths and their keys, with blanks between them.
var paths = map[string]string{
	"a": "a", "_": "_", "Z9-_": "Z9-_", "a-": "a-", "true": "true", "null": "null", "nnnnnnnnnnnnnnnn": "nnnnnnnnnnnnnnnn", `"a"`: "a", `"a.b"`: "a.b", `"1"`: "1", `"]"`: "]", `"["`: "[", `"="`: "=", `"#"`: "#", `"\u0061"`: "a", `"é"`: "é",
	"a.b": "a b", "a.b.c.d.e": "a b c d e", "a.a.a": "a a a", `"a"."b"`: "a b", `a."b".c`: "a b c", `"a".b."c"`: "a b c", `"a.b".c`: "a.b c", `a."].[".b`: "a ].[ b", `"=".b`: "= b", "a1.b-.c_": "a1 b- c_", "nnnnnnnnnnnnnnnn.mmmmmmmmmmmmmmmm": "nnnnnnnnnnnnnnnn mmmmmmmmmmmmmmmm",
}

// within returns what is told of steps, which are maps, around inner events, and
// of their ends.
func within(keys, inner string) string {
	begin, end := "{", "}"
	for _, key := range strings.Fields(keys) {
		begin, end = begin+" "+strconv.Quote(key)+": {", "} "+end
	}
	return strings.TrimSpace(begin+" "+inner) + " " + end
}

// above cuts the last of some keys off.
func above(keys string) (string, string) {
	cut := strings.LastIndexByte(keys, ' ')
	return keys[:max(cut, 0)], strconv.Quote(keys[cut+1:]) + ":"
}

// TestPaths holds paths in headers and in assignments.
func TestPaths(t *testing.T) {
	for path, keys := range paths {
		steps, key := above(keys)
		good(t, "["+path+"]", within(keys, ""))
		good(t, "  ["+path+"]  ", within(keys, ""))
		good(t, path+" = 1", within(steps, key+" 1"))
		good(t, "  "+path+"=[]", within(steps, key+" [ ]"))
		good(t, "["+path+"]\nz = 1", within(keys, `"z": 1`))
		good(t, "[z]\n"+path+" = 1", within("z "+steps, key+" 1"))
		if len(strings.Fields(keys)) < 5 {
			good(t, "["+path+"]\nz.y = 1", within(keys+" z", `"y": 1`))
			good(t, "[["+path+"]]", within(steps, key+" [ { } ]"))
			good(t, " [["+path+"]] \nz = 1", within(steps, key+` [ { "z": 1 } ]`))
		}
	}
	good(t, `["".""]`, `{ "": { "": { } } }`)
	good(t, `"" = ""`, `{ "": "" }`)
	good(t, `"a b"."c\n" = 1`, `{ "a b": { "c\n": 1 } }`)
}

// TestNoPaths holds what is no path, a header or an assignment: the first byte
// with which no line goes on.
func TestNoPaths(t *testing.T) {
	for _, ahead := range []struct{ text, told string }{{"", ""}, {"#x\n  ", ""}, {"z = 1\n", `{ "z": 1`}, {"[[z]]\ny.x = {}\n ", `{ "z": [ { "y": { "x": { }`}} {
		check := func(want string, list ...string) {
			t.Helper()
			for _, text := range list {
				last(t, follows(ahead.told, want), api.ErrSyntax, ahead.text+text)
			}
		}
		check("", "=", "]", ".", ",", "1", "-", "{", "}", "'", "\\", "\t", "\x00", "\x7f", "/", "+", ":", "&", "*")
		check("", "[ ", "[]", "[.", "[1", "[-", "[=", "[#", "[,", "[{", "[\t", "[\x00", "[:", "[[ ", "[[]", "[[[", "[[1", "[[.", "[[=")
		for _, begin := range []string{"[", "[[", "", "[\"\".", "a.", "[[a.b."} {
			check("", begin+"a..", begin+"a.]", begin+"a. ", begin+"a.1", begin+"a.-", begin+"a.=", begin+"a.#", begin+"a.[", begin+"a\"", begin+"a,", begin+"a:", begin+"a[", begin+"a\t", begin+"a#", begin+"a{", begin+`"a".]`, begin+`"a"..`, begin+`"a"b`, begin+`"a""`, begin+`"a".9`, begin+"a/")
			open(t, ahead.told, ahead.text+begin+"a", ahead.text+begin+"a.", ahead.text+begin+"a.b", ahead.text+begin+`"a"`, ahead.text+begin+`"a".`, ahead.text+begin+`"a`, ahead.text+begin+`a."b`, ahead.text+begin+`"`)
		}
		for _, begin := range []string{"[", "[[", "[\"\".", "[[a.b."} {
			check("", begin+"a ", begin+"a=", begin+`"a" `, begin+`"a"=`, begin+"a. ")
		}
		for _, begin := range []string{"", "a.", `"".`} {
			check("", begin+"a]", begin+"a b", begin+"a  ]", begin+"a  .", begin+"a \"", begin+"a \t", begin+"a #", begin+"a 1", begin+`"a"]`, begin+`"a" .`, begin+`"a" b`, begin+"a :")
			open(t, ahead.told, ahead.text+begin+"a ", ahead.text+begin+`"a"   `)
		}
		open(t, ahead.told, ahead.text+"[", ahead.text+"[[")
	}
	check := func(want string, list ...string) {
		t.Helper()
		last(t, want, api.ErrSyntax, list...)
	}
	check(`{ "a": {`, "[a]]", "[a]  ]", "[a]x", "[a] x", "[a]#", "[a] #", "[a]\t", "[a]=", "[a] =", "[a].", "[a][", "[a] [", "[a]\"", "[a],", "[a]1", "[a] \x00")
	check(`{ "a": [ {`, "[[a]x", "[[a] ", "[[a]#", "[[a]=", "[[a].", "[[a][", "[[a],", "[[a]\t", "[[a]]]", "[[a]]  ]", "[[a]]x", "[[a]] x", "[[a]]#", "[[a]] #", "[[a]]=", "[[a]][", "[[a]].")
	open(t, `{ "a": [ {`, "[[a]")
	check(`{ "a":`, "a ==", "a =,", "a =]", "a = =", "a =.")
	check(`{ "a": 1`, "a = 1 #", "a=1 b", "a=1,", "a = 1 =")
	open(t, `{ "a":`, "a =", "a = ", "a=")
}

// TestLongNames holds names of 17 bytes in paths, told at this byte.
func TestLongNames(t *testing.T) {
	long := strings.Repeat("n", 16)
	for _, begin := range []string{"", "  ", "a.", `"x y".`, "[", "[[", "[a.", "[[\"\".", "[" + long + ".", long + "."} {
		for _, ahead := range []struct{ text, told string }{{"", ""}, {"z = 1\n", `{ "z": 1`}} {
			for _, more := range []string{"n", "0", "_", "-"} {
				last(t, ahead.told, api.ErrToken, ahead.text+begin+long+more, ahead.text+begin+"_"+long[1:]+more)
				at := len(ahead.text+begin) + 16
				syntax.Check(t, ahead.text+begin+long+more+more+".a]", ahead.told, api.ErrToken, at)
				syntax.Check(t, ahead.text+begin+long+more+" =", ahead.told, api.ErrToken, at)
				syntax.Check(t, ahead.text+begin+long+more+"\n", ahead.told, api.ErrToken, at)
			}
		}
	}
	good(t, `["`+long+`n"]`, within(long+"n", "")) // a quoted string
	good(t, `"`+long+"n\"."+long+" = 1", within(long+"n", `"`+long+`": 1`))
}
