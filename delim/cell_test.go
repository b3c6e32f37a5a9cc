package delim_test

import (
	"strings"
	"testing"

	"hexapla/api"
	"hexapla/texts"
)

// held holds a cell and its contents, as the first, a middle and the last cell
// of a header and of a row, and as the only one.
func held(t *testing.T, cell, contents string) {
	t.Helper()
	begin, end := "[begin]", "[end]"
	for _, last := range []string{"", "\n"} {
		syntax.CheckOK(t, cell+last, "[ ]")
		syntax.CheckOK(t, cell+"\n1"+last, table([]string{contents}, words("1")))
		syntax.CheckOK(t, cell+","+end+"\n1,2"+last, table([]string{contents, end}, words("1 2")))
		syntax.CheckOK(t, begin+","+cell+","+end+"\n1,2,3"+last, table([]string{begin, contents, end}, words("1 2 3")))
		syntax.CheckOK(t, begin+","+cell+"\n1,2"+last, table([]string{begin, contents}, words("1 2")))
		three := strings.Join([]string{cell, cell, cell}, ",")
		syntax.CheckOK(t, "a,b,c\n"+three+last, table(letters(3), []string{contents, contents, contents}))
	}
	if cell != "" {
		syntax.CheckOK(t, "a\n"+cell, table(words("a"), []string{contents}))
	}
	syntax.CheckOK(t, "a\n"+cell+"\n"+cell+"\n", table(words("a"), []string{contents}, []string{contents}))
}

// places are texts behind which a cell follows, and their events.
func places() []texts.Pair {
	return []texts.Pair{
		{Text: "", Want: "["}, {Text: "x,", Want: "["}, {Text: `"x""y",`, Want: "["}, {Text: "x\n", Want: "["}, {Text: "x,y\n", Want: "["}, {Text: "x,y\nz,", Want: `[ { "x": "z"`},
		{Text: "x,y\n\"1\",", Want: `[ { "x": "1"`}, {Text: "x\nz\n", Want: `[ { "x": "z" }`}, {Text: "x,y,z\n1,2,", Want: `[ { "x": "1" "y": "2"`},
	}
}

// fails holds that the last byte of what stands where a cell may is met with an
// error.
func fails(t *testing.T, cell string, e api.Errno) {
	t.Helper()
	for _, place := range places() {
		want := place.Want
		if e == api.ErrUTF && len(place.Text+cell) == 1 {
			want = "" // List is reported with the first byte
		}
		syntax.CheckLast(t, place.Text+cell, want, e)
	}
}

// TestPlain holds all bytes that a plain cell may have, at its beginning, within
// it, and at its end, and characters.
func TestPlain(t *testing.T) {
	for b := byte(' '); b < 0x80; b++ {
		if char := string([]byte{b}); char != "," && char != `"` {
			held(t, char, char)
			held(t, char+"x"+char+char, char+"x"+char+char)
		}
	}
	for _, text := range []string{"", "a", " a ", "a b", "é", "é€\U0001f600", "a\u0080\uffff\U0010ffff", "'x'", `\n`, `\`, "a;b\x7f", "#n"} {
		held(t, text, text)
	}
}

// TestNotPlain asks the bytes that a plain cell may not have.
func TestNotPlain(t *testing.T) {
	for b := range byte(' ') {
		if b != '\n' {
			for _, before := range []string{"", "x", " ", "xyz", "é"} {
				fails(t, before+string([]byte{b}), api.ErrSyntax)
			}
		}
	}
	for _, before := range []string{"x", " ", "xyz", "é", "'"} {
		fails(t, before+`"`, api.ErrSyntax)
	}
	for _, bytes := range []string{"\x80", "\xff", "\xc0", "\xc3\xc3", "\xe2\x82x", "\xe2\x82,", "\xc3\n", "\xed\xa0", "\xf4\x90", "\xf0\x9f\x98\""} {
		fails(t, bytes, api.ErrUTF)
		fails(t, "x"+bytes, api.ErrUTF)
	}
}

// TestQuoted holds all bytes that are not above 127 in quoted cells, and
// characters.
func TestQuoted(t *testing.T) {
	for b := range byte(0x80) {
		char := string([]byte{b})
		cell := strings.ReplaceAll(char, `"`, `""`)
		held(t, `"`+cell+`"`, char)
		held(t, `"`+cell+"x"+cell+cell+`"`, char+"x"+char+char)
	}
	for cell, contents := range map[string]string{
		"": "", "a": "a", " a ": " a ", "é€\U0001f600": "é€\U0001f600", "a,b\nc": "a,b\nc", ",": ",", "\n": "\n", "\n\n,,\n": "\n\n,,\n",
		`""`: `"`, `""""`: `""`, `""""""`: `"""`, `""a`: `"a`, `a""`: `a"`, `a""b`: `a"b`, `""a""`: `"a"`, `"",""`: `","`, "\"\"\n\"\"": "\"\n\"", `\""`: `\"`, `\n`: `\n`, "\x00\x1f\t\r\n": "\x00\x1f\t\r\n",
	} {
		held(t, `"`+cell+`"`, contents)
	}
}

// TestBehindQuoted asks all bytes behind a quoted cell.
func TestBehindQuoted(t *testing.T) {
	for b := range 256 {
		char := string([]byte{byte(b)})
		if strings.Contains(",\n\"", char) {
			continue // which end the cell, or go on with it
		}
		e := api.ErrSyntax
		if b >= 0x80 && b < 0xC2 || b >= 0xF5 {
			e = api.ErrUTF
		}
		for _, cell := range []string{`""`, `"a"`, `"a"""`, `"a,b"`} {
			fails(t, cell+char, e)
		}
	}
}

// TestOpenQuoted holds texts that end within a quoted cell, and those that end
// behind a " in it, which ends it.
func TestOpenQuoted(t *testing.T) {
	for _, place := range places() {
		for _, cell := range []string{`"`, `"a`, `"""`, `"a""`, `"""""`, `"a""b`, `"a,`, "\"a\n", "\"a\n,\n", "\"\t", `"é`} {
			syntax.CheckOpen(t, place.Text+cell, place.Want)
		}
		for _, bytes := range texts.CutCharacters() {
			for _, before := range []string{`"`, `"a`, `"""`, "x", "é"} {
				text := place.Text + before + bytes
				syntax.Check(t, text, place.Want, api.ErrUTF, len(text))
			}
		}
	}
	for cell, contents := range map[string]string{`""`: "", `"a"`: "a", `""""`: `"`, `"a"""`: `a"`, "\"a\n\"": "a\n"} {
		syntax.CheckOK(t, "x\n"+cell, table(words("x"), []string{contents}))
		syntax.CheckOpen(t, "x\n"+cell+`"`, "[")
		syntax.CheckOK(t, "x\n"+cell+`""`, table(words("x"), []string{contents + `"`}))
	}
	for _, bytes := range []string{"\x80", "\xff", "\xc3\xc3", "\xe2\x82\"", "\xc3,", "\xc3\n", "\xf0\x9f\x98x"} {
		fails(t, `"`+bytes, api.ErrUTF)
		fails(t, `"a""`+bytes, api.ErrUTF)
	}
}

// longCells returns cells with 48 bytes of contents, which is all that they may
// have, and their contents.
func longCells() []texts.Pair {
	x := strings.Repeat("x", 48)
	euros := strings.Repeat("€", 16)
	return []texts.Pair{
		{Text: x, Want: x}, {Text: euros, Want: euros}, {Text: x[:46] + "é", Want: x[:46] + "é"}, {Text: strings.Repeat(" ", 48), Want: strings.Repeat(" ", 48)},
		{Text: `"` + x + `"`, Want: x}, {Text: `"` + euros + `"`, Want: euros}, {Text: `"` + x[:47] + `"""`, Want: x[:47] + `"`}, {Text: `"""` + x[:47] + `"`, Want: `"` + x[:47]},
		{Text: `"` + strings.Repeat(`""`, 48) + `"`, Want: strings.Repeat(`"`, 48)}, {Text: `"` + x[:46] + `,` + "\n\"", Want: x[:46] + ",\n"}, {Text: `"` + x[:20] + `""` + x[:27] + `"`, Want: x[:20] + `"` + x[:27]},
	}
}

func TestLongCells(t *testing.T) {
	for _, l := range longCells() {
		held(t, l.Text, l.Want)
		open, quoted := strings.CutSuffix(l.Text, `"`)
		for _, more := range []string{"x", " ", "\x7f", "\xc3", "€"[:1], "\U0001f600"[:1]} {
			fails(t, open+more, api.ErrToken)
		}
		fails(t, open+"\xff", api.ErrUTF)
		fails(t, open+"\x80", api.ErrUTF)
		if quoted {
			for _, more := range []string{`""`, ",", "\n", "\x00", "\t"} { // of two ", the second one
				fails(t, open+more, api.ErrToken)
			}
			fails(t, l.Text+"x", api.ErrSyntax)
			continue
		}
		for _, more := range []string{`"`, "\t", "\x00", "\x1f"} { // which no cell has, be it as long as it may
			fails(t, open+more, api.ErrSyntax)
		}
	}
	x := strings.Repeat("x", 47) // too long within a character
	fails(t, x+"\xc3\xa9", api.ErrToken)
	fails(t, `"`+x+"\xc3\xa9", api.ErrToken)
	fails(t, x[:46]+"\xe2\x82\xac", api.ErrToken)
	fails(t, `"`+x[:44]+`""`+"\xe2\x82\xac"+`""`, api.ErrToken)
}

// TestOwnLength holds that each cell has its own length.
func TestOwnLength(t *testing.T) {
	x := strings.Repeat("x", 48)
	cells := strings.Split(strings.Repeat(x+" ", 8)[:8*49-1], " ")
	text := strings.Join(cells, ",")
	syntax.CheckOK(t, "a,b,c,d,e,f,g,h\n"+text+"\n"+text, table(letters(8), cells, cells))
	syntax.CheckLast(t, "a,b\n"+x+","+x+"x", `[ { "a": "`+x+`"`, api.ErrToken)
	syntax.CheckLast(t, "a,b\n1,"+x+"x", `[ { "a": "1"`, api.ErrToken)
}
