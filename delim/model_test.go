package delim_test

import (
	"encoding/csv"
	"math/rand"
	"slices"
	"strings"
	"testing"

	"hexapla/api"
	"hexapla/checks"
	"hexapla/texts"
)

// reader is a model of the syntax.
type reader struct{ *checks.Reader }

// model reads a whole text.
func model(r *checks.Reader) {
	r.Tell(api.Event{Kind: api.List})
	if r.Text != "" {
		names := reader{r}.header()
		for r.At < len(r.Text) {
			reader{r}.row(names)
		}
	}
	r.Tell(api.Event{Kind: api.EndList})
}

func (r reader) header() []string {
	var names []string
	for {
		name := r.cell()
		if slices.Contains(names, name) {
			r.Fail(api.ErrTwice)
		}
		names = append(names, name)
		if r.Next() == ',' && len(names) == api.MaxColumns {
			r.Fail(api.ErrColumns)
		}
		if r.ended() {
			return names
		}
	}
}

func (r reader) row(names []string) {
	for i, name := range names {
		text := r.cell()
		if i == 0 {
			r.Tell(api.Event{Kind: api.Map})
		}
		r.Tell(api.Event{Kind: api.Key, Text: name})
		r.Tell(api.Event{Kind: api.Text, Text: text})
		if (r.Next() == ',') != (i < len(names)-1) {
			r.Fail(api.ErrCount)
		}
		if i < len(names)-1 {
			r.At++
		}
	}
	r.Tell(api.Event{Kind: api.EndMap})
	r.ended()
}

// ended goes over the byte behind a cell, if there is one, and reports whether
// the row has ended.
func (r reader) ended() bool {
	comma := r.Next() == ','
	r.At = min(r.At+1, len(r.Text))
	return !comma
}

// cell goes over a cell, and returns its contents.
func (r reader) cell() string {
	if r.Next() == '"' {
		return r.quoted()
	}
	first := r.At
	for ; r.At < len(r.Text) && r.Text[r.At] != ',' && r.Text[r.At] != '\n'; r.At++ {
		if r.Text[r.At] < 32 || r.Text[r.At] == '"' {
			r.Fail(api.ErrSyntax)
		}
		if r.At-first == api.MaxToken {
			r.Fail(api.ErrToken)
		}
	}
	return r.Text[first:r.At]
}

func (r reader) quoted() string {
	contents := ""
	for r.At++; r.At < len(r.Text); r.At++ {
		if r.Next() == '"' {
			r.At++
			if r.Next() != '"' { // it ends the cell
				if r.At < len(r.Text) && r.Next() != ',' && r.Next() != '\n' {
					r.Fail(api.ErrSyntax)
				}
				return contents
			}
		}
		if len(contents) == api.MaxToken {
			r.Fail(api.ErrToken)
		}
		contents += r.Text[r.At : r.At+1]
	}
	r.Fail(api.ErrSyntax)
	return ""
}

// TestAllTexts holds all short texts of some bytes against the model.
func TestAllTexts(t *testing.T) {
	for alphabet, length := range map[string]int{
		"a\",\n": 8, "ab\",\n": 7, "\t\",\na\x00": 6, "\"\xc3\xa9,\n\xff": 6, "a,\"\n\xf0\x9f\x98\x80": 5,
	} {
		for text := range texts.Short(alphabet, length) {
			syntax.Against(t, text, model)
		}
	}
}

// TestAllBehind does so behind what stands in each place.
func TestAllBehind(t *testing.T) {
	x := strings.Repeat("x", 47)
	for _, before := range []string{
		"a,b\n", "a,b,c\n1,", "a,b\n1,2\n", "a,b,c,d,e,f,", "a,b,c,d,e,f,g,h\n1,2,3,4,5,6,", x, `"` + x, "a,b\n" + x, "a,b\n1,\"" + x, x + "a,", "\"" + x + "\"\",",
	} {
		for text := range texts.Short("ax\",\n\xc3", 5) {
			syntax.Against(t, before+text, model)
		}
	}
}

// TestAllTokens holds all short rows of tokens against the model.
func TestAllTokens(t *testing.T) {
	x := strings.Repeat("x", 16)
	for text := range texts.Rows(6, "a", `"a"`, `""`, `"`, ",", "\n", "b\n", x+x+x) {
		syntax.Against(t, text, model)
	}
	for text := range texts.Rows(10, ",", "\n", "a,b,c,") {
		syntax.Against(t, text, model)
	}
}

// random writes a table of which the columns, the cells of a row and their bytes
// now and then are not what they may be.
func random(r *rand.Rand) string {
	columns := 1 + r.Intn(8)
	if r.Intn(40) == 0 {
		columns += 3
	}
	var lines []string
	for range 1 + r.Intn(6) {
		cells := columns
		if r.Intn(30) == 0 {
			cells = 1 + r.Intn(8)
		}
		var line []string
		for i := range cells {
			if lines == nil {
				line = append(line, randomName(r, i))
			} else {
				line = append(line, randomCell(r))
			}
		}
		lines = append(lines, strings.Join(line, ","))
	}
	return strings.Join(lines, "\n") + "\n"[:r.Intn(2)]
}

// randomName returns the i-th name of a header, or now and then the first one
// again.
func randomName(r *rand.Rand, i int) string {
	if r.Intn(80) == 0 {
		i = 0
	}
	name := strings.Repeat("é", i)
	return []string{name, `"` + name + `"`}[r.Intn(2)]
}

// randomCell returns a cell, now and then one that is too long.
func randomCell(r *rand.Rand) string {
	n := r.Intn(4)
	if r.Intn(30) == 0 {
		n = 40 + r.Intn(12)
	}
	out := ""
	if r.Intn(2) == 0 {
		for range n {
			out += []string{"a", " ", "'", "é", "12"}[r.Intn(5)]
		}
		return out
	}
	for range n {
		out += []string{"a", ",", "\n", `""`, "€", "\t"}[r.Intn(6)]
	}
	return `"` + out + `"`
}

// TestRandom holds long texts, and what becomes of them by small changes, against
// the model, also in pieces.
func TestRandom(t *testing.T) {
	r := rand.New(rand.NewSource(9))
	syntax.Random(t, model, func() string { return random(r) }, ",,\n\n\"\"ax\x00\t\xff\xc3\x80", r.Intn,
		api.OK, api.ErrSyntax, api.ErrUTF, api.ErrToken, api.ErrTwice, api.ErrColumns, api.ErrCount)
}

// TestLibrary holds tables that the library's writer writes.
func TestLibrary(t *testing.T) {
	r := rand.New(rand.NewSource(10))
	for range 3000 {
		names := letters(1 + r.Intn(8))
		list := make([][]string, r.Intn(5))
		for i := range list {
			for range names {
				cell := ""
				for range r.Intn(6) {
					cell += []string{"a", ",", "\n", `"`, " ", "é", "\\", "\r", "\U0001f600"}[r.Intn(9)]
				}
				list[i] = append(list[i], cell)
			}
		}
		var b strings.Builder
		if e := csv.NewWriter(&b).WriteAll(append([][]string{names}, list...)); e != nil {
			t.Fatal(e)
		}
		syntax.Whole(t, b.String(), table(names, list...), api.OK, b.Len())
	}
}
