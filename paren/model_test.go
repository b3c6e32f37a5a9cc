package paren_test

import (
	"math/rand"
	"strconv"
	"strings"
	"testing"

	"hexapla/api"
	"hexapla/brace"
	"hexapla/checks"
	"hexapla/names"
	"hexapla/texts"
)

// reader is a model of the syntax.
type reader struct{ *checks.Reader }

// model reads a whole text.
func model(r *checks.Reader) {
	reader{r}.blanks()
	reader{r}.value()
	reader{r}.blanks()
}

func (r reader) blanks() {
	for comment := false; r.At < len(r.Text); r.At++ {
		switch b := r.Next(); {
		case b == '\n':
			comment = false
		case b == ';':
			comment = true
		case !comment && b != ' ' && b != '\t' && b != '\r':
			return
		}
	}
}

func (r reader) value() {
	switch r.Next() {
	case '#':
		r.At++
		r.marked()
	case '(':
		r.Open()
		r.Last(api.Event{Kind: api.List})
		r.list()
	case '"':
		r.Last(api.Event{Kind: api.Text, Text: r.Quoted()})
	default:
		r.Number()
	}
}

func (r reader) marked() {
	switch r.Next() {
	case 'n':
		r.Last(api.Event{Kind: api.Null})
	case 't':
		r.Last(api.Event{Kind: api.Bool, Text: "true"})
	case 'f':
		r.Last(api.Event{Kind: api.Bool, Text: "false"})
	case '(':
		r.Open()
		r.Last(api.Event{Kind: api.Map})
		r.fields()
	case '<':
		r.Open()
		r.At++
		r.element()
	default:
		r.Fail(api.ErrSyntax)
	}
}

func (r reader) list() {
	for r.blanks(); r.Next() != ')'; r.blanks() {
		r.value()
	}
	r.end(api.EndList)
}

func (r reader) fields() {
	for r.blanks(); r.Next() != ')'; r.blanks() {
		key := r.Quoted()
		r.Key(key)
		r.Last(api.Event{Kind: api.Key, Text: key})
		r.blanks()
		r.value()
	}
	r.end(api.EndMap)
}

// end goes over a ).
func (r reader) end(kind int) {
	r.Last(api.Event{Kind: kind})
	r.Shut()
}

// name reads a quoted string, but for its closing ", that is a full name.
func (r reader) name() string {
	r.blanks()
	name := r.Quoted()
	if _, _, is := names.Cut(name); !is {
		r.Fail(api.ErrName)
	}
	return name
}

func (r reader) element() {
	r.Last(api.Event{Kind: api.Elem, Text: r.name()})
	for r.blanks(); r.Next() == '@'; r.blanks() {
		r.At++
		name := r.name()
		r.Key(name)
		r.At++
		r.blanks()
		r.Last(api.Event{Kind: api.Attr, Text: name, Val: r.Quoted()})
	}
	for text := false; r.Next() != ')'; r.blanks() {
		if r.Next() == '"' && !text {
			r.text()
			text = true
			continue
		}
		r.Expect('#')
		if r.Next() != '<' {
			r.Fail(api.ErrSyntax)
		}
		r.marked()
		text = false
	}
	r.end(api.EndElem)
}

// text reads a string in the contents of an element.
func (r reader) text() {
	text := r.Quoted()
	if text == "" {
		r.Fail(api.ErrSyntax)
	}
	r.Last(api.Event{Kind: api.Text, Text: text})
}

// TestAllTexts holds all short texts of some bytes against the model.
func TestAllTexts(t *testing.T) {
	for alphabet, length := range map[string]int{
		"()#\"1 ;\n": 6, "(1)0.e-+x;": 5, "\"\\un0dc8\x1f": 5, "#ntf(<) ": 6, "1(\"\xc3\xa9\xe2\x82\xff": 5, "-1x\xff;\n": 6, ";\xc3\xa9\n1\xff": 6, "#<\"e@)": 7,
	} {
		for text := range texts.Short(alphabet, length) {
			syntax.Against(t, text, model)
		}
	}
}

// TestAllBehind does so behind what stands in each place.
func TestAllBehind(t *testing.T) {
	for _, l := range follows {
		for text := range texts.Short("()#<@\"e;1-\n", 4) {
			syntax.Against(t, l.text+text, model)
		}
	}
}

// TestAllTokens holds all short rows of tokens against the model.
func TestAllTokens(t *testing.T) {
	for text := range texts.Rows(5, "(", ")", "#(", "#<", "@", `"a"`, `"b"`, `""`, "1", "#n", "1e1000", ";", "\n", "\xff") {
		syntax.Against(t, text, model)
	}
	for text := range texts.Rows(7, `#<"e"`, ")", `@"a"`, `"a"`, `""`, "#(") {
		syntax.Against(t, text, model)
	}
}

// writer writes random texts.
type writer struct {
	*rand.Rand
	strings.Builder
}

// blank writes blanks now and then, and some where it must.
func (w *writer) blank(must bool) {
	if must || w.Intn(8) == 0 {
		w.WriteString([]string{" ", "\t", "\n", "\r", ";\n", "; (\"é\n", "  "}[w.Intn(7)])
	}
}

// count is how many parts a value has, now and then more than it may.
func (w *writer) count() int {
	if w.Intn(6) == 0 {
		return w.Intn(13)
	}
	return w.Intn(4)
}

// value writes a value in at most depth others.
func (w *writer) value(depth int) {
	w.blank(false)
	defer w.blank(false)
	switch kind := w.Intn(10); {
	case depth > 0 && kind < 2:
		w.WriteString("(")
		for range w.count() {
			w.value(depth - 1)
		}
		w.WriteString(")")
	case depth > 0 && kind < 4:
		w.WriteString("#(")
		for i := range w.count() {
			w.name(i)
			w.value(depth - 1)
		}
		w.WriteString(")")
	case depth > 0 && kind < 6:
		w.element(depth - 1)
	case kind == 6:
		w.WriteString(texts.RandomQuoted(w.Intn(4), w.Intn))
	case kind == 7:
		w.WriteString([]string{"#n", "#t", "#f"}[w.Intn(3)])
	default:
		w.WriteString(texts.RandomNumber(w.Intn))
		w.blank(w.Intn(20) > 0)
	}
}

// name writes the i-th name of some, or now and then the first one again, or
// none.
func (w *writer) name(i int) {
	w.blank(false)
	defer w.blank(false)
	begin := []string{`"k`, `"\u006B`, `"\u006b`, `"{u}k`}[w.Intn(4)]
	if w.Intn(40) == 0 {
		i = 0
	}
	if w.Intn(60) == 0 {
		begin = `"{}`
	}
	w.WriteString(begin + strconv.Itoa(i) + `"`)
}

func (w *writer) element(depth int) {
	w.WriteString("#<")
	w.name(0)
	for i := range w.count() {
		w.WriteString("@")
		w.name(i)
		w.WriteString(texts.RandomQuoted(w.Intn(3), w.Intn))
		w.blank(false)
	}
	for text := false; w.Intn(3) > 0; w.blank(false) {
		if !text || w.Intn(20) == 0 {
			w.WriteString(texts.RandomQuoted(1+w.Intn(3), w.Intn))
			text = true
		} else if depth > 0 {
			w.element(depth - 1)
			text = false
		}
	}
	w.WriteString(")")
}

// TestRandom holds long texts, and what becomes of them by small changes, against
// the model, also in pieces.
func TestRandom(t *testing.T) {
	r := rand.New(rand.NewSource(8))
	write := func() string {
		w := &writer{Rand: r}
		w.value(3 + r.Intn(5))
		return w.String()
	}
	syntax.Random(t, model, write, "()#<@;\"\\19.e- \nntf\x00\xff\xc3\x80x", r.Intn,
		api.OK, api.ErrSyntax, api.ErrUTF, api.ErrToken, api.ErrDepth, api.ErrTwice, api.ErrFields, api.ErrNumber, api.ErrEscape, api.ErrName)
}

// both writes a random value, in at most depth others, as a text of this syntax
// and as one of brace.
func both(r *rand.Rand, depth int, here, there *strings.Builder) {
	same := func(text string) { here.WriteString(text); there.WriteString(text) }
	each := func(text, other string) { here.WriteString(text); there.WriteString(other) }
	n := r.Intn(4)
	switch kind := r.Intn(6); {
	case kind < 2 && depth > 0:
		each("(", "[")
		for i := range n {
			each(" "[:min(i, 1)], ","[:min(i, 1)])
			both(r, depth-1, here, there)
		}
		each(")", "]")
	case kind < 4 && depth > 0:
		each("#(", "{")
		for i := range n {
			each("", ","[:min(i, 1)])
			same(strconv.Quote("k" + strconv.Itoa(i)))
			each("", ":")
			both(r, depth-1, here, there)
		}
		each(")", "}")
	case kind == 4:
		same(strconv.Quote(strings.Repeat("a\n", n)))
	default:
		each([]string{"#n", "#t", "#f", "10"}[n], []string{"null", "true", "false", "10"}[n])
	}
}

// TestBrace holds that values that both syntaxes have are the same in them.
func TestBrace(t *testing.T) {
	r := rand.New(rand.NewSource(9))
	for range 5000 {
		var here, there strings.Builder
		both(r, 6, &here, &there)
		l, e, _ := brace.Decode([]byte(there.String()))
		if got := syntax.Read(t, here.String()); got.Err != api.OK || e != api.OK || checks.Written(got.Events) != checks.Written(l) {
			t.Fatalf("%s and %s: %s", here.String(), there.String(), got.Written())
		}
	}
}
