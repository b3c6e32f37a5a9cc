package brace_test

import (
	"encoding/json"
	"math/rand"
	"slices"
	"strconv"
	"strings"
	"testing"

	"hexapla/api"
	"hexapla/checks"
	"hexapla/texts"
)

// reader is a model of the syntax.
type reader struct{ *checks.Reader }

// model reads a whole text.
func model(r *checks.Reader) { reader{r}.item() }

func (r reader) blanks() {
	for r.At < len(r.Text) && strings.Contains(" \t\n\r", r.Text[r.At:r.At+1]) {
		r.At++
	}
}

func (r reader) word(word string, x api.Event) {
	for i := range len(word) - 1 {
		r.Expect(word[i])
	}
	if r.Next() != word[len(word)-1] {
		r.Fail(api.ErrSyntax)
	}
	r.Last(x)
}

func (r reader) list() {
	r.Open()
	r.Last(api.Event{Kind: api.List})
	r.blanks()
	if r.Next() != ']' {
		r.item()
		for r.Next() == ',' {
			r.At++
			r.item()
		}
	}
	if r.Next() != ']' {
		r.Fail(api.ErrSyntax)
	}
	r.Last(api.Event{Kind: api.EndList})
	r.Shut()
}

func (r reader) item() {
	r.blanks()
	r.value()
	r.blanks()
}

func (r reader) object() {
	r.Open()
	r.Last(api.Event{Kind: api.Map})
	r.blanks()
	if r.Next() != '}' {
		r.field()
		for r.Next() == ',' {
			r.At++
			r.field()
		}
	}
	if r.Next() != '}' {
		r.Fail(api.ErrSyntax)
	}
	r.Last(api.Event{Kind: api.EndMap})
	r.Shut()
}

func (r reader) field() {
	r.blanks()
	key := r.Quoted()
	r.Key(key)
	r.Last(api.Event{Kind: api.Key, Text: key})
	r.blanks()
	r.Expect(':')
	r.item()
}

func (r reader) value() {
	switch r.Next() {
	case 'n':
		r.word("null", api.Event{Kind: api.Null})
	case 't':
		r.word("true", api.Event{Kind: api.Bool, Text: "true"})
	case 'f':
		r.word("false", api.Event{Kind: api.Bool, Text: "false"})
	case '[':
		r.list()
	case '{':
		r.object()
	case '"':
		r.Last(api.Event{Kind: api.Text, Text: r.Quoted()})
	default:
		r.Number()
	}
}

// TestAllTexts holds all short texts of some bytes against the model.
func TestAllTexts(t *testing.T) {
	for alphabet, length := range map[string]int{
		"[]{},:\"1 ": 6, "[1,0.e-+E]x": 5, "\"\\un0dc8\x1f": 5, "ntruefals[": 5, "1[\"\xc3\xa9\xe2\x82\xff": 5, "-1x\xff,": 6,
	} {
		for text := range texts.Short(alphabet, length) {
			syntax.Against(t, text, model)
		}
	}
}

// TestAllTokens holds all short rows of tokens against the model.
func TestAllTokens(t *testing.T) {
	for text := range texts.Rows(5, "[", "]", "{", "}", ",", ":", `"a"`, `"b"`, "1", "null ", "1e1000", "\xff") {
		syntax.Against(t, text, model)
	}
}

// random writes a value in at most depth others, with blanks, of which the keys
// and the length of lists now and then pass the limits.
func random(r *rand.Rand, b *strings.Builder, depth int) {
	blank := func() { b.WriteString(strings.Repeat(" \t\n\r"[r.Intn(4):], r.Intn(8)/7)) }
	blank()
	defer blank()
	n := r.Intn(4)
	if r.Intn(6) == 0 {
		n = r.Intn(13)
	}
	switch kind := r.Intn(8); {
	case depth > 0 && kind < 2:
		b.WriteString("[")
		for i := range n {
			b.WriteString(","[:min(i, 1)])
			random(r, b, depth-1)
		}
		b.WriteString("]")
	case depth > 0 && kind < 4:
		b.WriteString("{")
		for i := range n {
			b.WriteString(","[:min(i, 1)])
			blank()
			b.WriteString(randomKey(r, i))
			blank()
			b.WriteString(":")
			random(r, b, depth-1)
		}
		b.WriteString("}")
	case kind == 4:
		b.WriteString(texts.RandomQuoted(r.Intn(4), r.Intn))
	case kind == 5:
		b.WriteString([]string{"null", "true", "false"}[r.Intn(3)])
	default:
		b.WriteString(texts.RandomNumber(r.Intn))
	}
}

// randomKey writes the i-th key of a map, or now and then its first one again.
func randomKey(r *rand.Rand, i int) string {
	if r.Intn(40) == 0 {
		i = 0
	}
	return []string{`"k`, `"\u006B`, `"\u006b`}[r.Intn(3)] + strconv.Itoa(i) + `"`
}

// TestRandom holds long texts, and what becomes of them by small changes, against
// the model, also in pieces.
func TestRandom(t *testing.T) {
	r := rand.New(rand.NewSource(7))
	write := func() string {
		var b strings.Builder
		random(r, &b, 3+r.Intn(5))
		return b.String()
	}
	syntax.Random(t, model, write, "[]{},:\"\\19.e- \nnut\x00\xff\xc3\x80x", r.Intn,
		api.OK, api.ErrSyntax, api.ErrUTF, api.ErrToken, api.ErrDepth, api.ErrTwice, api.ErrFields, api.ErrNumber, api.ErrEscape)
}

// open returns the brackets that close what a text opens, whether it ends within
// a quoted string or not.
func open(text string) string {
	var closing []byte
	for i, within := 0, false; i < len(text); i++ {
		switch b := text[i]; {
		case within && b == '\\':
			i++
		case b == '"':
			within = !within
		case within:
		case b == '[', b == '{':
			closing = append(closing, b+2) // the codes of [] and of {} are two apart
		case b == ']', b == '}':
			closing = closing[:max(0, len(closing)-1)]
		}
	}
	slices.Reverse(closing)
	return string(closing)
}

// goesOn reports whether a text of JSON begins with text, and keeps it in known.
func goesOn(text string, known map[string]bool) bool {
	if goes, is := known[text]; is {
		return goes
	}
	closing := open(text)
	known[text] = slices.ContainsFunc([]string{
		"", "0", `"`, `":0`, `:0`, `"":0`, "ull", "ll", "l", "rue", "ue", "e", "alse", "lse", "se", `n"`, `n":0`,
	}, func(middle string) bool { return json.Valid([]byte(text + middle + closing)) })
	return known[text]
}

// TestJSON holds short texts against a reader of JSON: the texts without errors
// are those of JSON, and an error is met at the first byte with which none of
// them begins. (No key can stand twice here, and no limit can be met.)
func TestJSON(t *testing.T) {
	known := map[string]bool{}
	for alphabet, length := range map[string]int{"[]{}:,\"0 ": 6, "[trufalse,n]": 5, "-0.1eE+, ": 5, "{\"\\n\n\t}0": 6} {
		for text := range texts.Short(alphabet, length) {
			r := syntax.Read(t, text)
			switch r.Err {
			case api.OK:
				if !json.Valid([]byte(text)) {
					t.Fatalf("%q: OK", text)
				}
			case api.ErrSyntax, api.ErrEscape:
				first := r.At == len(text) && !json.Valid([]byte(text)) || r.At < len(text) && !goesOn(text[:r.At+1], known)
				if !first || !goesOn(text[:r.At], known) {
					t.Fatalf("%q: %v %d", text, r.Err, r.At)
				}
			default:
				t.Fatalf("%q: %v %d", text, r.Err, r.At)
			}
		}
	}
}
