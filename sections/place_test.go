package sections_test

import (
	"strings"
	"testing"

	"hexapla/api"
	"hexapla/checks"
)

// placed holds at which bytes the events of a text without comments are reported.
// Where a byte follows with which no line goes on, it has the events that are
// reported ahead of this byte, and no others. Numbers, and names in values, are to
// have one byte, as they would end there, too. For marked see checks.Placed.
func placed(t *testing.T, marked, written string) {
	t.Helper()
	text, events, places := checks.Placed(t, marked, written)
	good(t, strings.TrimSuffix(text, "\n"), written)
	for i := range len(text) {
		n := 0
		for n < len(places) && places[n] < i {
			n++
		}
		for _, more := range []string{"\x00", "\x00\n", "\x00" + text[i:]} {
			syntax.Check(t, text[:i]+more, checks.Written(events[:n]), api.ErrSyntax, i)
		}
	}
}

// TestPlaces holds the position of each event.
func TestPlaces(t *testing.T) {
	placed(t, "[a^^^]^^", `{ "a": { } }`)
	placed(t, "  [a.b.\"]\"^^^^^^^]  \n\n  ^^^^", `{ "a": { "b": { "]": { } } } }`)
	placed(t, "[[a^^^^]]^^^", `{ "a": [ { } ] }`)
	placed(t, " [[\"a\".bc^^^^^^]] ^^^^", `{ "a": { "bc": [ { } ] } }`)
	placed(t, "a ^^= ^1^", `{ "a": 1 }`)
	placed(t, "\n  ab.\"=\".c   ^^^^^^=   tru^e  \n^^^", `{ "ab": { "=": { "c": true } } }`)
	placed(t, "a^^=fals^e\nb  ^= \"x y^\" \n c ^=  -^7 \n^", `{ "a": false "b": "x y" "c": -7 }`)
	placed(t, "a ^^= ^[ ^1 , ^[^] ,^{ ^k = tru^e , \"l m^\"=\"^\" , ^n  =  ^{^} ^} , fals^e ^] \n^", `{ "a": [ 1 [ ] { "k": true "l m": "" "n": { } } false ] }`)
	placed(t, "[a^^^]\n[b^^^]\n [a1.c^^^^^]^^^\n", `{ "a": { } "b": { } "a1": { "c": { } } }`)
	placed(t, "[a.b.c^^^^^^^]\n[a.d^^^^]\n e.f ^^^= ^1 \n g ^^= ^2\n[h^^^^]^^", `{ "a": { "b": { "c": { } } "d": { "e": { "f": 1 } "g": 2 } } "h": { } }`)
	placed(t, "[[a^^^^]]\n[[a^^]]\n[[a.b^^^]]\n  c.d  ^^^= ^1\n [[ab^^^^^^^^]]  \n^^^", `{ "a": [ { } { "b": [ { "c": { "d": 1 } } ] } ] "ab": [ { } ] }`)
	placed(t, "[[a^^^^]]\nb.c ^^^= ^1\n[[\"a\"^^^]]\nb.c ^^^= ^2\n[a.b1^^^]\n[[a^^^]]^^^", `{ "a": [ { "b": { "c": 1 } } { "b": { "c": 2 } "b1": { } } { } ] }`)
}

// TestRefused holds the place of each event that may be refused: the key of a
// step or of an assignment, a map or a list of a step, and what a value has.
func TestRefused(t *testing.T) {
	marked(t, api.ErrTwice, map[string]string{
		"a = 1\n[a^]": `{ "a": 1`, "a = 1\n [\"a\"^] ": `{ "a": 1`, "a = 1\n[[a^]]": `{ "a": 1`, "a = 1\n[a.b.c^]": `{ "a": 1`, "a = 1\na ^= 2": `{ "a": 1`, "a = 1\n \"a\" ^= 2": `{ "a": 1`, "a = 1\na.b ^= 2": `{ "a": 1`, "a.b = 1\na.b ^= x": `{ "a": { "b": 1`,
		"a = { b = 1 , ^b = 2 }": `{ "a": { "b": 1`, "a = { bc = 1 , b^c = 2 }": `{ "a": { "bc": 1`, "a = { b = 1 , \"b^\" = 2 }": `{ "a": { "b": 1`,
	})
	marked(t, api.ErrDepth, map[string]string{
		"[a.b.c.d.e.f^]": `{ "a": { "b": { "c": { "d": { "e": { "f":`, "[[a.b.c.d.e^]]": `{ "a": { "b": { "c": { "d": { "e": [`, "[[a.b.c.d.e.f^]]": `{ "a": { "b": { "c": { "d": { "e": { "f":`, "a.b.c.d.e.f.g ^= 1": `{ "a": { "b": { "c": { "d": { "e": { "f":`,
		"a.b.c.d.e.f = ^[ ]": `{ "a": { "b": { "c": { "d": { "e": { "f":`, "a.b.c.d.e.f = ^{ }": `{ "a": { "b": { "c": { "d": { "e": { "f":`, "a = [ [ [ [ [ ^[ ] ] ] ] ] ]": `{ "a": [ [ [ [ [`, "a = [ [ [ [ [ 1 , ^{ x": `{ "a": [ [ [ [ [ 1`,
	})
}

// TestOrder holds lines with several errors, of which the first one is told.
func TestOrder(t *testing.T) {
	long, digits := strings.Repeat("n", 17), strings.Repeat("7", 31)
	marked(t, api.ErrSyntax, map[string]string{
		"[a]\n[a^ ]": `{ "a": {`, "[a]\n[a.^]": `{ "a": {`, "a = 1\na ^x": `{ "a": 1`, "a = 1\na^\x00": `{ "a": 1`, "a = 1\n[a^": `{ "a": 1`, "a = 1\n[[a^": `{ "a": 1`, "a.b.c.d.e.f.g^": "", "a.b.c.d.e.f.g ^[": "", "[a]\n^= 1": `{ "a": {`, "a = {b = 1, ^1": `{ "a": { "b": 1`,
		"a^," + long: "", "[^]" + long: "", "a = ^x" + digits: `{ "a":`, "a = 1^x" + digits: `{ "a": 1`, "a = ^x[[[[[[": `{ "a":`, "a = tr^x": `{ "a":`, "[a]^\"\\x": `{ "a": {`, "a = 1\n[b]^]\n[a]": `{ "a": 1 "b": {`,
	})
	marked(t, api.ErrTwice, map[string]string{"a = 1\na ^= x": `{ "a": 1`, "a = 1\n[a^]]": `{ "a": 1`, "a = 1\n[[a^] ]": `{ "a": 1`, "a = 1\n[[a^]": `{ "a": 1`, "a = 1\na ^= [[[[[[": `{ "a": 1`, "a = 1\na.b.c.d.e.f.g ^= 1": `{ "a": 1`, "a = 1\n[a.b.c.d.e.f.g^]": `{ "a": 1`, "a = {b = 1, ^b}": `{ "a": { "b": 1`, "a = {b = 1, ^b.c": `{ "a": { "b": 1`})
	marked(t, api.ErrDepth, map[string]string{"[a.b.c.d.e.f^]x": `{ "a": { "b": { "c": { "d": { "e": { "f":`, "[[a.b.c.d.e^]": `{ "a": { "b": { "c": { "d": { "e": [`, "a.b.c.d.e.f.g ^=": `{ "a": { "b": { "c": { "d": { "e": { "f":`, "a = [[[[[^[x": `{ "a": [ [ [ [ [`})
	marked(t, api.ErrToken, map[string]string{long[:16] + "^n." + long: "", "a.b.c.d.e.f.g." + long[:16] + "^n =": "", "a = 1\na." + long[:16] + "^n = 1": `{ "a": 1`, "[" + long[:16] + "^n ": "", "a = " + digits[:30] + "^7x": `{ "a":`, "a = {b = 1, " + long[:16] + "^n}": `{ "a": { "b": 1`})
	marked(t, api.ErrEscape, map[string]string{"\"\\^x\".\x00": "", "[a.\"\\^x\"]]": "", "a = 1\na.\"\\u00^g\" = 1": `{ "a": 1`, "a = \"\\^x\"x": `{ "a":`, "a = {b = 1, \"\\^x": `{ "a": { "b": 1`})
	marked(t, api.ErrNumber, map[string]string{"a = 1e1000^x": `{ "a":`, "a = 1e1000^": `{ "a":`, "a = [1, 1e1000^]]": `{ "a": [ 1`, "a = 1e1000^ x": `{ "a":`})
}
