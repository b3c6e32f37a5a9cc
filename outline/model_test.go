package outline_test

import (
	"math/rand"
	"regexp"
	"strconv"
	"strings"
	"testing"

	"hexapla/api"
	"hexapla/brace"
	"hexapla/checks"
	"hexapla/quote"
	"hexapla/texts"
)

// stored is what stands under a name.
type stored struct {
	events []api.Event
	whole  bool
}

// reader is a model of the syntax, in which each block reads the ones in it.
type reader struct {
	*checks.Reader
	there    bool // a line that is no comment, with its indentation behind it
	indent   int
	named    map[string]*stored
	open     []*stored
	size     int
	repeated int
}

var (
	word = regexp.MustCompile(`^[A-Za-z_][A-Za-z0-9_.-]*`) // a local name, of any length
	item = regexp.MustCompile(`^-( |$)`)                   // the beginning of an item
)

// model reads a whole text.
func model(c *checks.Reader) {
	r := &reader{Reader: c, named: map[string]*stored{}}
	r.line()
	switch {
	case !r.there:
		r.Fail(api.ErrSyntax)
	case r.indent > 0:
		r.Fail(api.ErrIndent)
	case item.MatchString(r.rest()), r.isField():
		r.block(0)
	default:
		r.alone()
	}
}

// line goes to the next line that is no comment.
func (r *reader) line() {
	for r.there = r.NextLine(); r.there; r.there = r.NextLine() {
		r.indent = len(r.rest()) - len(strings.TrimLeft(r.rest(), " "))
		r.At += r.indent
		if r.rest() != "" && r.Next() != '#' {
			return
		}
	}
}

// rest returns the line from where it is read on.
func (r *reader) rest() string { return r.Text[r.At:] }

// isField reports whether the line begins with a key, blanks and a colon.
func (r *reader) isField() bool {
	key := len(word.FindString(r.rest()))
	if r.Next() == '"' {
		key = quotedLength(r.rest())
	}
	return key > 0 && (key <= 16 || r.Next() == '"') && strings.HasPrefix(strings.TrimLeft(r.rest()[key:], " "), ":")
}

// quotedLength returns how long the quoted string is with which a text begins, or
// 0 if it does not.
func quotedLength(text string) int {
	q := quote.New()
	for i := 1; i < len(text); i++ {
		if closed, e := q.Step(text[i]); closed {
			return i + 1
		} else if e != api.OK {
			break
		}
	}
	return 0
}

// tell reports an event at the byte at.
func (r *reader) tell(x api.Event) {
	switch x.Kind {
	case api.List, api.Map:
		r.Open()
	case api.Key:
		r.Key(x.Text)
	case api.EndList, api.EndMap:
		r.Shut()
	}
	r.grow(len(r.open) * (len(x.Text) + 1))
	for _, v := range r.open {
		v.events = append(v.events, x)
	}
	r.Tell(x)
}

// grow counts what is stored.
func (r *reader) grow(n int) {
	if r.size += n; r.size > 200 {
		r.Fail(api.ErrAnchorSpace)
	}
}

// last reports an event at the byte at, and goes over it.
func (r *reader) last(x api.Event) {
	r.tell(x)
	r.At++
}

func (r *reader) blanks() { r.At += len(r.rest()) - len(strings.TrimLeft(r.rest(), " ")) }

// name reads a local name, but for its last byte.
func (r *reader) name() string {
	name := word.FindString(r.rest())
	if name == "" {
		r.Fail(api.ErrSyntax)
	}
	if len(name) > 16 {
		r.At += 16
		r.Fail(api.ErrToken)
	}
	r.At += len(name) - 1
	return name
}

// alone reads a value that is not a block, and what must not follow it.
func (r *reader) alone() {
	if word.MatchString(r.rest()) {
		first := r.At
		if name := r.name(); name != "null" && name != "true" && name != "false" {
			r.At++
			r.Fail(api.ErrSyntax)
		}
		r.At = first
	}
	r.anchored(func() bool {
		if r.rest() == "" {
			r.Fail(api.ErrSyntax)
		}
		r.flow()
		return true
	})
	r.line()
	if r.there {
		r.Fail(api.ErrSyntax)
	}
}

// anchored reads blanks and an anchor, if there is one, and the value behind it,
// which is stored then.
func (r *reader) anchored(value func() bool) bool {
	r.blanks()
	if r.Next() != '&' {
		return value()
	}
	r.At++
	name := r.name()
	if r.named[name] != nil {
		r.Fail(api.ErrTwice)
	}
	r.grow(len(name))
	v := &stored{}
	r.named[name] = v
	r.open = append(r.open, v)
	r.At++
	r.gap()
	r.blanks()
	inLine := value()
	v.whole = true
	r.open = r.open[:len(r.open)-1]
	return inLine
}

// gap reads the blank that is wanted unless the line ends.
func (r *reader) gap() {
	if r.rest() != "" {
		r.Expect(' ')
	}
}

// block reads a block, with its first line ahead.
func (r *reader) block(indent int) {
	kind, end := api.Map, api.EndMap
	if item.MatchString(r.rest()) {
		kind, end = api.List, api.EndList
	} else if r.Next() != '"' && !word.MatchString(r.rest()) {
		r.Fail(api.ErrSyntax)
	}
	r.tell(api.Event{Kind: kind})
	for r.there && r.indent >= indent {
		if r.indent > indent { // which no value has taken
			r.Fail(api.ErrIndent)
		}
		r.mark(kind)
		if r.anchored(func() bool { return r.part(indent) }) {
			r.line()
		}
	}
	r.tell(api.Event{Kind: end})
}

// mark reads what is ahead of the part of an item or a field.
func (r *reader) mark(kind int) {
	if kind == api.List {
		r.Expect('-')
		r.gap()
		return
	}
	if r.Next() == '"' {
		r.last(api.Event{Kind: api.Key, Text: r.Quoted()})
	} else {
		r.last(api.Event{Kind: api.Key, Text: r.name()})
	}
	r.blanks()
	r.Expect(':')
	r.gap()
}

// part reads the value of a line that is indented so, and reports whether it is
// in the line. If it is not, the next line is ahead.
func (r *reader) part(indent int) bool {
	if r.rest() != "" {
		r.flow()
		return true
	}
	r.line()
	switch {
	case !r.there || r.indent <= indent:
		r.tell(api.Event{Kind: api.Null})
	case r.indent == indent+2:
		r.block(indent + 2)
	default:
		r.Fail(api.ErrIndent)
	}
	return false
}

// flow reads a flow value and the blanks behind it, with which the line ends.
func (r *reader) flow() {
	r.value()
	r.blanks()
	if r.rest() != "" {
		r.Fail(api.ErrSyntax)
	}
}

func (r *reader) value() {
	words := map[byte]string{'n': "null", 't': "true", 'f': "false"}
	switch b := r.Next(); b {
	case 'n', 't', 'f':
		for i := range len(words[b]) - 1 {
			r.Expect(words[b][i])
		}
		r.Expect(words[b][len(words[b])-1])
		r.At--
		x := api.Event{Kind: api.Null}
		if b != 'n' {
			x = api.Event{Kind: api.Bool, Text: words[b]}
		}
		r.last(x)
	case '"':
		r.last(api.Event{Kind: api.Text, Text: r.Quoted()})
	case '*':
		r.reference()
	case '[':
		r.between(api.List, api.EndList, ']', r.value)
	case '{':
		r.between(api.Map, api.EndMap, '}', func() {
			r.last(api.Event{Kind: api.Key, Text: r.Quoted()})
			r.blanks()
			r.Expect(':')
			r.blanks()
			r.value()
		})
	default:
		form := r.Form()
		r.At--
		r.last(api.Event{Kind: api.Number, Text: form})
	}
}

// between reads a list or a map.
func (r *reader) between(kind, end int, closing byte, part func()) {
	r.last(api.Event{Kind: kind})
	r.blanks()
	for first := true; r.Next() != closing; first = false {
		if !first {
			r.Expect(',')
			r.blanks()
		}
		part()
		r.blanks()
	}
	r.last(api.Event{Kind: end})
}

func (r *reader) reference() {
	r.At++
	v := r.named[r.name()]
	if v == nil || !v.whole {
		r.Fail(api.ErrAnchor)
	}
	if r.repeated += len(v.events); r.repeated > 40 {
		r.Fail(api.ErrExpand)
	}
	for _, x := range v.events {
		r.tell(x)
	}
	r.At++
}

// TestAllTexts holds all short texts of some bytes against the model.
func TestAllTexts(t *testing.T) {
	for alphabet, length := range map[string]int{
		"- \n1": 8, "a: \n-": 7, "- \n[,]1": 6, "&*a \n-": 7, "\"\\u0a: \n": 5, "{\":}, 1\n": 6, "nula: \n": 6, "#- \na:": 6, "a:\xc3\xa9\n \xff": 6, "-01.e+ \n": 5, "\t\r\x00- a:\n": 5,
	} {
		for text := range texts.Short(alphabet, length) {
			syntax.Against(t, text, model)
		}
	}
}

// TestAllBehind does so behind what stands in each place.
func TestAllBehind(t *testing.T) {
	for _, ahead := range []string{"-\n", "a:\n", "- &a 1\n", "a: &a [1]\nb:\n", "-\n  -\n", "a:\n  b:\n    c: &a\n", "- &a\n  - &b 1\n  - ", "1\n", "-\n  k: 1\n", "- &a [[[[[]]]]]\n- [", "- {\"a\":"} {
		for text := range texts.Short("-a: \n&*1", 5) {
			syntax.Against(t, ahead+text, model)
		}
	}
}

// TestAllTokens holds all short rows of tokens against the model.
func TestAllTokens(t *testing.T) {
	for text := range texts.Rows(5, "-", "- ", "a:", "b: ", "\n", "  ", " ", "1", "&a ", "*a", "[", "]", "#", `"a"`, "null", "\xff") {
		syntax.Against(t, text, model)
	}
	for text := range texts.Rows(8, "-\n", "  ", "- 1\n", "a:\n", "\n") {
		syntax.Against(t, text, model)
	}
	for text := range texts.Rows(6, "- &a", "- *a", "\n", "  ", "- &b ", "- [*b, *a]", "1e1000") {
		syntax.Against(t, text, model)
	}
}

// writer writes random texts.
type writer struct {
	*rand.Rand
	strings.Builder
	names   []string // of anchors whose values are complete
	count   int      // of all anchors
	anchors int      // there is one once in so many parts
	repeats int      // and a reference once in so many values
}

// blank writes blanks now and then.
func (w *writer) blank() { w.WriteString(strings.Repeat(" ", w.Intn(12)/9)) }

// rare reports true once in n times.
func (w *writer) rare(n int) bool { return w.Intn(n) == 0 }

// newline ends a line, and writes comments now and then.
func (w *writer) newline() {
	w.WriteString("\n")
	for w.rare(8) {
		w.WriteString([]string{"\n", "   \n", "#\n", "     # é\n", " #\"" + strings.Repeat("x", 150+w.Intn(10)) + "\n"}[w.Intn(5)])
	}
}

// anchor writes an anchor, of a name that now and then is not a new one, and
// returns the name.
func (w *writer) anchor() string {
	w.count++
	name := "k" + strconv.Itoa(w.count)
	if w.rare(6) {
		name += strings.Repeat("n", 10+w.Intn(5))
	}
	if w.rare(60) && len(w.names) > 0 {
		name = w.names[0]
	}
	w.WriteString("&" + name)
	return name
}

// reference writes a reference, now and then to a name that is none, or may be
// open.
func (w *writer) reference() {
	name := "k" + strconv.Itoa(w.count)
	if len(w.names) > 0 && !w.rare(60) {
		name = w.names[w.Intn(len(w.names))]
	}
	w.WriteString("*" + name)
}

// block writes a block that is indented so, in which at most depth others are.
func (w *writer) block(indent, depth int) {
	isList := w.rare(2)
	count := 1 + w.Intn(4)
	if w.rare(12) {
		count = 8 + w.Intn(12)
	}
	for i := range count {
		w.WriteString(strings.Repeat(" ", max(0, indent-w.Intn(60)/59)))
		if isList {
			w.WriteString("-")
		} else {
			w.key(i)
			w.blank()
			w.WriteString(":")
		}
		w.part(indent, depth)
	}
}

// key writes the i-th key of a map, or now and then its first one again.
func (w *writer) key(i int) {
	if w.rare(80) {
		i = 0
	}
	key := []string{"k%", `"k%"`, `"\u006b%"`, "k%-.", `"%: - é"`, "k%" + strings.Repeat("n", 12+w.Intn(4))}[max(0, w.Intn(20)-14)]
	w.WriteString(strings.ReplaceAll(key, "%", strconv.Itoa(i)))
}

// part writes what stands behind a - or a colon, and the block that follows.
func (w *writer) part(indent, depth int) {
	if w.rare(w.anchors) {
		w.WriteString(" ")
		w.blank()
		name := w.anchor()
		defer func() { w.names = append(w.names, name) }()
	}
	switch kind := w.Intn(8); {
	case kind < 3 && depth > 0:
		w.newline()
		w.block(indent+2+w.Intn(60)/59, depth-1)
		return
	case kind > 3:
		w.WriteString(" ")
		w.blank()
		w.flow(w.Intn(3))
	}
	w.blank()
	w.newline()
}

// flow writes a flow value in which at most depth others are.
func (w *writer) flow(depth int) {
	switch kind := w.Intn(10); {
	case w.rare(w.repeats) && (len(w.names) > 0 || w.rare(60)):
		w.reference()
	case kind < 2 && depth > 0:
		w.WriteString("[")
		w.parts(func(int) { w.flow(depth - 1) })
		w.WriteString("]")
	case kind < 4 && depth > 0:
		w.WriteString("{")
		w.parts(func(i int) {
			w.WriteString(`"k` + strconv.Itoa(i-i*(w.Intn(40)/39)) + `"`)
			w.blank()
			w.WriteString(":")
			w.blank()
			w.flow(depth - 1)
		})
		w.WriteString("}")
	case kind == 4:
		w.WriteString(texts.RandomQuoted(w.Intn(3), w.Intn))
	case kind < 8:
		w.WriteString([]string{"null", "true", "false"}[w.Intn(3)])
	default:
		w.WriteString(texts.RandomNumber(w.Intn))
	}
}

// parts writes parts with commas between them.
func (w *writer) parts(part func(i int)) {
	w.blank()
	for i := range w.Intn(4) {
		if i > 0 {
			w.WriteString(",")
			w.blank()
		}
		part(i)
		w.blank()
	}
}

// TestRandom holds long texts, and what becomes of them by small changes, against
// the model, also in pieces.
func TestRandom(t *testing.T) {
	r := rand.New(rand.NewSource(11))
	write := func() string {
		w := &writer{Rand: r, anchors: 1 + r.Intn(12), repeats: 1 + r.Intn(6)}
		if w.rare(10) {
			w.flow(6)
		} else {
			w.block(0, 2+w.Intn(5))
		}
		return w.String()
	}
	syntax.Random(t, model, write, "-:  \n\n&*[]{},\"\\k1.e#\t\xff\xc3", r.Intn,
		api.OK, api.ErrSyntax, api.ErrUTF, api.ErrToken, api.ErrDepth, api.ErrTwice, api.ErrFields, api.ErrNumber, api.ErrEscape, api.ErrIndent, api.ErrAnchor, api.ErrAnchorSpace, api.ErrExpand)
}

// both writes a random value, in at most depth others, as a flow value, which is
// one of brace too, and as what stands behind the - or the colon of a line that
// is indented so.
func both(r *rand.Rand, indent, depth int) (string, string) {
	n := r.Intn(4)
	kind := r.Intn(3)
	if depth == 0 || kind == 0 || n == 0 {
		values := []string{"null", "true", "-10.5", `"a\n: - "`, "[]", "{}"}
		if depth == 0 {
			values = values[:4]
		}
		value := values[r.Intn(len(values))]
		return value, " " + value + "\n"
	}
	var flows []string
	block := "\n"
	for i := range n {
		flow, behind := both(r, indent+2, depth-1)
		mark := "-"
		if kind == 1 {
			mark = strconv.Quote("k"+strconv.Itoa(i)) + ":"
			flow = mark + flow
		}
		flows = append(flows, flow)
		block += strings.Repeat(" ", indent+2) + mark + behind
	}
	flow := "[" + strings.Join(flows, ", ") + "]"
	if kind == 1 {
		flow = "{" + strings.Join(flows, ", ") + "}"
	}
	if r.Intn(3) == 0 && len(flow) < 80 {
		return flow, " " + flow + "\n"
	}
	return flow, block
}

// TestBrace holds that blocks are what flow values are, and brace's values.
func TestBrace(t *testing.T) {
	r := rand.New(rand.NewSource(12))
	for range 5000 {
		flow, block := both(r, -2, 6)
		l, e, _ := brace.Decode([]byte(flow))
		text := strings.TrimLeft(block, " \n")
		if got := syntax.Read(t, text); got.Err != api.OK || e != api.OK || checks.Written(got.Events) != checks.Written(l) {
			t.Fatalf("%s and %q: %s", flow, text, got.Written())
		}
		if len(flow) > 160 {
			continue
		}
		if got := syntax.Read(t, flow); got.Err != api.OK || checks.Written(got.Events) != checks.Written(l) {
			t.Fatalf("%s: %s", flow, got.Written())
		}
	}
}
