package sections_test

import (
	"math/rand"
	"regexp"
	"slices"
	"strconv"
	"strings"
	"testing"

	"hexapla/api"
	"hexapla/brace"
	"hexapla/checks"
	"hexapla/texts"
)

// reader is a model of the syntax, in which each step of the position reads all
// lines that keep it, and the steps that those add.
type reader struct {
	*checks.Reader
	base []string // the path of the last header
	line line
}

// line is one that is no comment, and that is read up to its first ] or its =.
type line struct {
	kind string // = for an assignment, [ and [[ for headers, or empty if there is no line left
	path []string
}

var bare = regexp.MustCompile(`^[A-Za-z_][A-Za-z0-9_-]*`) // a local name without a dot, of any length

// model reads a whole text.
func model(c *checks.Reader) {
	r := &reader{Reader: c}
	r.next()
	r.tell(api.Event{Kind: api.Map})
	r.steps(nil)
	r.tell(api.Event{Kind: api.EndMap})
}

// rest returns the line from where it is read on.
func (r *reader) rest() string { return r.Text[r.At:] }

func (r *reader) blanks() { r.At += len(r.rest()) - len(strings.TrimLeft(r.rest(), " ")) }

// next goes to the next line that is no comment.
func (r *reader) next() {
	r.line = line{}
	for r.NextLine() {
		if r.blanks(); r.rest() != "" && r.Next() != '#' {
			r.begin()
			return
		}
	}
}

// begin reads the line up to its first ] or its =.
func (r *reader) begin() {
	kind := r.rest()[:min(2, len(r.rest()))]
	switch {
	case kind == "[[":
	case kind[0] == '[':
		kind = "["
	default:
		path := append(slices.Clone(r.base), r.path()...)
		r.blanks()
		r.meet('=')
		r.line = line{"=", path}
		return
	}
	r.At += len(kind)
	r.base = r.path()
	r.meet(']')
	r.line = line{kind, r.base}
}

// meet fails unless the next byte is b.
func (r *reader) meet(b byte) {
	if r.rest() == "" || r.Next() != b {
		r.Fail(api.ErrSyntax)
	}
}

func (r *reader) path() []string {
	path := []string{r.key()}
	for r.At++; r.rest() != "" && r.Next() == '.'; r.At++ {
		r.At++
		path = append(path, r.key())
	}
	return path
}

// key reads a key, but for its last byte.
func (r *reader) key() string {
	if r.Next() == '"' {
		return r.Quoted()
	}
	key := bare.FindString(r.rest())
	if key == "" {
		r.Fail(api.ErrSyntax)
	}
	if len(key) > 16 {
		r.At += 16
		r.Fail(api.ErrToken)
	}
	r.At += len(key) - 1
	return key
}

// tell reports an event at the byte at.
func (r *reader) tell(x api.Event) {
	switch x.Kind {
	case api.List, api.Map:
		r.Open()
	case api.Key:
		r.Key(x.Text)
	case api.EndList, api.EndMap:
		r.Shut()
	}
	r.Tell(x)
}

// last reports an event at the byte at, and goes over it.
func (r *reader) last(x api.Event) {
	r.tell(x)
	r.At++
}

// goes reports whether the line adds something to the map with a path, or to one
// in it.
func (r *reader) goes(at []string) bool {
	return len(r.line.path) > len(at) && slices.Equal(r.line.path[:len(at)], at)
}

// steps reads the lines that keep the map with a path.
func (r *reader) steps(at []string) {
	for r.goes(at) {
		key := r.line.path[len(at)]
		r.tell(api.Event{Kind: api.Key, Text: key})
		switch below := append(slices.Clone(at), key); {
		case len(r.line.path) > len(below):
			r.table(below)
		case r.line.kind == "=":
			r.At++
			r.blanks()
			r.value()
			r.finish()
		case r.line.kind == "[":
			r.table(below)
		default:
			r.rows(below)
		}
	}
}

// table reads a map with a path, and the rest of the line if that is its header.
func (r *reader) table(path []string) {
	r.tell(api.Event{Kind: api.Map})
	if len(r.line.path) == len(path) {
		r.At++
		r.finish()
	}
	r.steps(path)
	r.tell(api.Event{Kind: api.EndMap})
}

// rows reads a list with a path, and the lines with the headers of its maps.
func (r *reader) rows(path []string) {
	r.tell(api.Event{Kind: api.List})
	for r.line.kind == "[[" && slices.Equal(r.line.path, path) {
		r.tell(api.Event{Kind: api.Map})
		r.At++
		r.Expect(']')
		r.finish()
		r.steps(path)
		r.tell(api.Event{Kind: api.EndMap})
	}
	r.tell(api.Event{Kind: api.EndList})
}

// finish reads the rest of the line, and goes to the next one.
func (r *reader) finish() {
	r.blanks()
	if r.rest() != "" {
		r.Fail(api.ErrSyntax)
	}
	r.next()
}

func (r *reader) value() {
	word := ""
	switch r.Next() {
	case 't':
		word = "true"
	case 'f':
		word = "false"
	case '"':
		r.last(api.Event{Kind: api.Text, Text: r.Quoted()})
		return
	case '[':
		r.between(api.List, api.EndList, ']', r.value)
		return
	case '{':
		r.between(api.Map, api.EndMap, '}', func() {
			r.last(api.Event{Kind: api.Key, Text: r.key()})
			r.blanks()
			r.Expect('=')
			r.blanks()
			r.value()
		})
		return
	default:
		form := r.Form()
		r.At--
		r.last(api.Event{Kind: api.Number, Text: form})
		return
	}
	for i := range word {
		r.meet(word[i])
		r.At++
	}
	r.At--
	r.last(api.Event{Kind: api.Bool, Text: word})
}

// between reads a list or a map.
func (r *reader) between(kind, end int, closing byte, part func()) {
	r.last(api.Event{Kind: kind})
	r.blanks()
	for first := true; r.Next() != closing; first = false {
		if !first {
			r.Expect(',')
			r.blanks()
		}
		part()
		r.blanks()
	}
	r.last(api.Event{Kind: end})
}

// TestAllTexts holds all short texts of some bytes against the model.
func TestAllTexts(t *testing.T) {
	for alphabet, length := range map[string]int{
		"[]a.\n": 7, "a=1 \n": 7, "[]ab\n": 7, "a.=1\n": 7, "[a]= #\n": 6, "\"\\a=.1\n": 6, "[\"]a.\n": 6, "{}a=,1 ": 6, "true= \n": 6, "a=[,] \n": 6, "a=\xc3\xa9\n \xff": 6, "-01.e+=a": 5, "\t\r\x00[a]=1\n": 5,
	} {
		for text := range texts.Short(alphabet, length) {
			syntax.Against(t, text, model)
		}
	}
}

// TestAllBehind does so behind what stands in each place.
func TestAllBehind(t *testing.T) {
	for _, ahead := range []string{"[a]\n", "[[a]]\n", "[[a.b]]\na=1\n", "a.b=1\n", "[a]\nb.c=1\n", "[[a]]\n[a.b]\n", "[a.a.a.a]\n", "[", "[[a", "[a.", "a=[", "a={", "a={a=1,", "a={\"a\"", "a={a=[[[[", "\"", "[\"a", "a = "} {
		for text := range texts.Short("[]ab.=1\n", 5) {
			syntax.Against(t, ahead+text, model)
		}
	}
}

// TestAllLines holds all short rows of lines and of tokens against the model.
func TestAllLines(t *testing.T) {
	for text := range texts.Rows(5, "[a]\n", "[[a]]\n", "[a.b]\n", "[[a.b]]\n", "a=1\n", "b.a=1\n", "[b]\n", "[a.b.c]\n") {
		syntax.Against(t, text, model)
	}
	for text := range texts.Rows(6, "[[a]]\n", "[[a.a]]\n", "[a.a]\n", "a.a=1\n", "b.b=1\n", "[a.b]\n") {
		syntax.Against(t, text, model)
	}
	for text := range texts.Rows(5, "[", "]", "[[", "]]", "a", ".", "=", "\n", " ", "1", `"a"`, "b=1\n", "\xff") {
		syntax.Against(t, text, model)
	}
	for text := range texts.Rows(6, "[a.b.c", ".d]\n", ".d.e]\n", ".a.b=1\n", "[", "c.d", "[[a.b]]\n") {
		syntax.Against(t, text, model)
	}
}

// writer writes random texts.
type writer struct {
	*rand.Rand
	strings.Builder
	keys int // how many different ones there are
}

// rare reports true once in n times.
func (w *writer) rare(n int) bool { return w.Intn(n) == 0 }

// blank writes blanks now and then.
func (w *writer) blank() { w.WriteString(strings.Repeat(" ", w.Intn(12)/9)) }

// newline ends a line, and writes comments now and then.
func (w *writer) newline() {
	w.blank()
	w.WriteString("\n")
	for w.rare(8) {
		w.WriteString([]string{"\n", "   \n", "#\n", "     # é\n", " #\"" + strings.Repeat("x", 150+w.Intn(10)) + "\n"}[w.Intn(5)])
	}
	w.blank()
}

// key writes a key, in one of the ways in which it may be written.
func (w *writer) key() {
	number := strconv.Itoa(w.Intn(w.keys))
	key := []string{"k%", `"k%"`, `"\u006b%"`, "k%-_", `"%.é]="`, "k%" + strings.Repeat("n", 12+w.Intn(4))}[max(0, w.Intn(20)-14)]
	w.WriteString(strings.ReplaceAll(key, "%", number))
}

// path writes a path of at most most keys.
func (w *writer) path(most int) {
	w.key()
	for range w.Intn(most) {
		w.WriteString(".")
		w.key()
	}
}

// lines writes lines with headers and assignments.
func (w *writer) lines(count int) {
	for range count {
		switch w.Intn(5) {
		case 0:
			w.WriteString("[")
			w.path(2 + w.Intn(30)/29*4)
			w.WriteString("]")
		case 1:
			w.WriteString("[[")
			w.path(2 + w.Intn(30)/29*4)
			w.WriteString("]]")
		default:
			w.path(1 + w.Intn(3) + w.Intn(30)/29*4)
			w.blank()
			w.WriteString("=")
			w.blank()
			w.value(w.Intn(3) + w.Intn(30)/29*6)
		}
		w.newline()
	}
}

// value writes a value in which at most depth others are.
func (w *writer) value(depth int) {
	switch kind := w.Intn(10); {
	case kind < 3 && depth > 0:
		w.WriteString("[")
		w.parts(func() { w.value(depth - 1) })
		w.WriteString("]")
	case kind < 5 && depth > 0:
		w.WriteString("{")
		w.parts(func() {
			w.key()
			w.blank()
			w.WriteString("=")
			w.blank()
			w.value(depth - 1)
		})
		w.WriteString("}")
	case kind == 5:
		w.WriteString(texts.RandomQuoted(w.Intn(3), w.Intn))
	case kind < 8:
		w.WriteString([]string{"true", "false"}[w.Intn(2)])
	default:
		w.WriteString(texts.RandomNumber(w.Intn))
	}
}

// parts writes parts with commas between them.
func (w *writer) parts(part func()) {
	w.blank()
	for i := range w.Intn(4) {
		if i > 0 {
			w.WriteString(",")
			w.blank()
		}
		part()
		w.blank()
	}
}

// TestRandom holds long texts, and what becomes of them by small changes, against
// the model, also in pieces.
func TestRandom(t *testing.T) {
	r := rand.New(rand.NewSource(12))
	write := func() string {
		w := &writer{Rand: r, keys: 1 + r.Intn(300)}
		if w.rare(3) {
			w.keys = 1 + r.Intn(4)
		}
		w.lines(r.Intn(20))
		return w.String()
	}
	syntax.Random(t, model, write, "[]{}..==,,  \n\n\"\\k1.e#\t\xff\xc3", r.Intn,
		api.OK, api.ErrSyntax, api.ErrUTF, api.ErrToken, api.ErrDepth, api.ErrTwice, api.ErrFields, api.ErrNumber, api.ErrEscape)
}

// both writes random maps in brace and in this syntax.
type both struct {
	*rand.Rand
	lines []string
	long  bool // there is a line that is too long
}

func (b *both) write(line string) {
	b.lines = append(b.lines, line)
	b.long = b.long || len(line) > 160
}

// word returns a key as it stands in a path: plain, if it may be, or quoted.
func (b *both) word(key string) string {
	if b.Intn(3) > 0 && bare.FindString(key) == key {
		return key
	}
	return strconv.Quote(key)
}

// inLine returns a value in brace and in this syntax, in which at most depth
// others are.
func (b *both) inLine(depth int) (string, string) {
	kind := b.Intn(3)
	if depth == 0 || kind == 0 {
		values := []string{"true", "false", "-10.5", `"a\n= ]"`, "0"}
		value := values[b.Intn(len(values))]
		return value, value
	}
	var braces, own []string
	for i := range b.Intn(4) {
		inner, ownInner := b.inLine(depth - 1)
		if kind == 2 {
			key := "k" + strconv.Itoa(i)
			inner, ownInner = strconv.Quote(key)+":"+inner, b.word(key)+" = "+ownInner
		}
		braces, own = append(braces, inner), append(own, ownInner)
	}
	if kind == 2 {
		return "{" + strings.Join(braces, ",") + "}", "{" + strings.Join(own, ", ") + "}"
	}
	return "[" + strings.Join(braces, ",") + "]", "[" + strings.Join(own, ", ") + "]"
}

// assigned writes assignments to a path below the last header, of a value or of
// the fields of a map, and returns the value in brace.
func (b *both) assigned(path string, depth int) string {
	if depth == 0 || b.Intn(3) > 0 {
		value, own := b.inLine(min(depth, 2))
		b.write(path + " = " + own)
		return value
	}
	var fields []string
	for i := range 1 + b.Intn(3) {
		key := "f" + strconv.Itoa(i)
		fields = append(fields, strconv.Quote(key)+":"+b.assigned(path+"."+b.word(key), depth-1))
	}
	return "{" + strings.Join(fields, ",") + "}"
}

// table writes what a header with a path ahead has, with at most depth maps or
// lists in one another, and returns the map in brace.
func (b *both) table(path string, depth int) string {
	var fields []string
	for i := range b.Intn(3) {
		key := []string{"a", "b.c"}[b.Intn(2)] + strconv.Itoa(i)
		fields = append(fields, strconv.Quote(key)+":"+b.assigned(b.word(key), depth))
	}
	for i := range b.Intn(4) {
		key := []string{"k", "k ]", "k-"}[b.Intn(3)] + strconv.Itoa(i)
		below := strings.TrimPrefix(path+"."+b.word(key), ".")
		switch {
		case depth > 1 && b.Intn(2) == 0:
			fields = append(fields, strconv.Quote(key)+":["+b.rows(below, depth-2)+"]")
		case depth > 0:
			b.write("[" + below + "]")
			fields = append(fields, strconv.Quote(key)+":"+b.table(below, depth-1))
		}
	}
	return "{" + strings.Join(fields, ",") + "}"
}

func (b *both) rows(path string, depth int) string {
	var rows []string
	for range 1 + b.Intn(3) {
		b.write("[[" + path + "]]")
		rows = append(rows, b.table(path, depth))
	}
	return strings.Join(rows, ",")
}

// TestBrace holds that tables are brace's maps.
func TestBrace(t *testing.T) {
	held := 0
	for seed := range 10000 {
		b := &both{Rand: rand.New(rand.NewSource(int64(seed)))}
		want := b.table("", b.Intn(6))
		if b.long {
			continue
		}
		l, e, _ := brace.Decode([]byte(want))
		text := strings.Join(b.lines, "\n")
		if got := syntax.Read(t, text); got.Err != api.OK || e != api.OK || checks.Written(got.Events) != checks.Written(l) {
			t.Fatalf("%s and %q: %s", want, text, got.Written())
		}
		held++
	}
	if held < 9000 {
		t.Error(held)
	}
}
