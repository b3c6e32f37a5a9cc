package brace_test

import (
	"encoding/json"
	"math/rand"
	"regexp"
	"slices"
	"strconv"
	"strings"
	"testing"
	"unicode/utf8"

	"hexapla/api"
	"hexapla/num"
	"hexapla/quote"
	"hexapla/texts"
)

// The numbers of any length, and what they begin with.
var (
	isNumber = regexp.MustCompile(`^-?(0|[1-9][0-9]*)(\.[0-9]+)?([eE][+-]?[0-9]+)?$`)
	begins   = regexp.MustCompile(`^(-?|-?(0|[1-9][0-9]*)(\.[0-9]*)?|-?(0|[1-9][0-9]*)(\.[0-9]+)?[eE][+-]?[0-9]*)$`)
)

// reader is a model: it has the whole text ahead of it, and reads it by the
// chapter's sentences, each of which is a method.
type reader struct {
	text  string
	at    int
	told  []api.Event
	where []int      // each of them is reported
	keys  [][]string // of what is open, a list too
}

// failure is what a reader stops with.
type failure struct{ e api.Errno }

func (r *reader) fail(e api.Errno) { panic(failure{e}) }

// tell reports an event at the byte at.
func (r *reader) tell(kind int, text string) {
	r.told, r.where = append(r.told, api.Event{Kind: kind, Text: text}), append(r.where, r.at)
}

// next returns the byte at, or 0 at the end.
func (r *reader) next() byte {
	if r.at < len(r.text) {
		return r.text[r.at]
	}
	return 0
}

// expect goes over a byte.
func (r *reader) expect(b byte) {
	if r.next() != b {
		r.fail(api.ErrSyntax)
	}
	r.at++
}

func (r *reader) blanks() {
	for r.at < len(r.text) && strings.Contains(" \t\n\r", r.text[r.at:r.at+1]) {
		r.at++
	}
}

func (r *reader) word(word string, kind int, text string) {
	for i := range len(word) {
		if r.next() != word[i] {
			r.fail(api.ErrSyntax)
		}
		if i == len(word)-1 {
			r.tell(kind, text)
		}
		r.at++
	}
}

func (r *reader) number() {
	first := r.at
	for r.at < len(r.text) && begins.MatchString(r.text[first:r.at+1]) {
		if r.at-first == 30 {
			r.fail(api.ErrToken)
		}
		r.at++
	}
	if !isNumber.MatchString(r.text[first:r.at]) {
		r.fail(api.ErrSyntax)
	}
	form, e := num.Read(r.text[first:r.at])
	if e != api.OK {
		r.fail(api.ErrNumber)
	}
	r.tell(api.Number, form)
}

// quoted reads a quoted string up to its last byte.
func (r *reader) quoted() string {
	q := quote.New()
	for r.at++; r.at < len(r.text); r.at++ {
		closed, e := q.Step(r.text[r.at])
		if e != api.OK {
			r.fail(e)
		}
		if closed {
			return q.Text()
		}
	}
	r.fail(api.ErrSyntax)
	return ""
}

// begin reports a bracket that opens, and end one that closes.
func (r *reader) begin(kind int) {
	if len(r.keys) == 6 {
		r.fail(api.ErrDepth)
	}
	r.keys = append(r.keys, nil)
	r.tell(kind, "")
	r.at++
	r.blanks()
}

func (r *reader) end(kind int) {
	r.tell(kind, "")
	r.at++
	r.keys = r.keys[:len(r.keys)-1]
}

func (r *reader) list() {
	r.begin(api.List)
	if r.next() != ']' {
		r.item()
		for r.next() == ',' {
			r.at++
			r.item()
		}
	}
	if r.next() != ']' {
		r.fail(api.ErrSyntax)
	}
	r.end(api.EndList)
}

func (r *reader) item() {
	r.blanks()
	r.value()
	r.blanks()
}

func (r *reader) object() {
	r.begin(api.Map)
	if r.next() != '}' {
		r.field()
		for r.next() == ',' {
			r.at++
			r.field()
		}
	}
	if r.next() != '}' {
		r.fail(api.ErrSyntax)
	}
	r.end(api.EndMap)
}

func (r *reader) field() {
	r.blanks()
	if r.next() != '"' {
		r.fail(api.ErrSyntax)
	}
	key := r.quoted()
	keys := &r.keys[len(r.keys)-1]
	if slices.Contains(*keys, key) {
		r.fail(api.ErrTwice)
	}
	if len(*keys) == 10 {
		r.fail(api.ErrFields)
	}
	*keys = append(*keys, key)
	r.tell(api.Key, key)
	r.at++
	r.blanks()
	r.expect(':')
	r.item()
}

func (r *reader) value() {
	switch b := r.next(); b {
	case 'n':
		r.word("null", api.Null, "")
	case 't':
		r.word("true", api.Bool, "true")
	case 'f':
		r.word("false", api.Bool, "false")
	case '[':
		r.list()
	case '{':
		r.object()
	case '"':
		contents := r.quoted()
		r.tell(api.Text, contents)
		r.at++
	default:
		if r.at == len(r.text) || !begins.MatchString(string(rune(b))) {
			r.fail(api.ErrSyntax)
		}
		r.number()
	}
}

// read reads the whole text, and returns its error.
func (r *reader) read() (e api.Errno) {
	defer func() {
		if f, is := recover().(failure); is {
			e = f.e
		}
	}()
	r.item()
	if r.at < len(r.text) {
		r.fail(api.ErrSyntax)
	}
	return api.OK
}

// noCharacter returns where the bytes of a text do not continue those before
// them, or its length if it ends within a character, and whether one of both is.
func noCharacter(text string) (int, bool) {
	whole := 0
	for whole < len(text) {
		r, size := utf8.DecodeRuneInString(text[whole:])
		if r == utf8.RuneError && size == 1 {
			break
		}
		whole += size
	}
	at := whole
	for at < len(text) && startsCharacter(text[whole:at+1]) {
		at++
	}
	return at, whole < len(text)
}

// startsCharacter reports whether some character begins with these bytes.
func startsCharacter(bytes string) bool {
	return slices.ContainsFunc([]string{"", "\x80", "\x80\x80", "\x80\x80\x80", "\xa0\x80", "\x90\x80\x80"}, func(more string) bool {
		return utf8.ValidString(bytes + more)
	})
}

// model returns the events and the end of a text.
func model(text string) ([]api.Event, api.Errno, int) {
	r := &reader{text: text}
	e := r.read()
	if at, is := noCharacter(text); is && at <= r.at {
		n := 0
		for n < len(r.told) && r.where[n] < at {
			n++
		}
		return r.told[:n], api.ErrUTF, at
	}
	return r.told, e, r.at
}

// checkModel holds a text against the model, and returns its error.
func checkModel(t *testing.T, text string) api.Errno {
	t.Helper()
	l, e, at := decode(t, text)
	want, wantE, wantAt := model(text)
	if !slices.Equal(l, want) || e != wantE || at != wantAt {
		t.Fatalf("%q: %s %v %d, not %s %v %d", text, written(l), e, at, written(want), wantE, wantAt)
	}
	return e
}

// TestAllTexts holds all short texts of some bytes against the model.
func TestAllTexts(t *testing.T) {
	for alphabet, length := range map[string]int{
		"[]{},:\"1 ": 6, "[1,0.e-+E]x": 5, "\"\\un0dc8\x1f": 5, "ntruefals[": 5, "1[\"\xc3\xa9\xe2\x82\xff": 5, "-1x\xff,": 6,
	} {
		for text := range texts.Short(alphabet, length) {
			checkModel(t, text)
		}
	}
}

// TestAllTokens holds all short rows of tokens against the model.
func TestAllTokens(t *testing.T) {
	tokens := []string{"[", "]", "{", "}", ",", ":", `"a"`, `"b"`, "1", "null ", "1e1000", "\xff"}
	for row := range texts.Short("ABCDEFGHIJKL", 5) {
		var b strings.Builder
		for i := range len(row) {
			b.WriteString(tokens[row[i]-'A'])
		}
		checkModel(t, b.String())
	}
}

// random writes a value in at most depth others, with blanks, of which the keys
// and the length of lists now and then pass the limits.
func random(r *rand.Rand, b *strings.Builder, depth int) {
	blank := func() { b.WriteString(strings.Repeat(" \t\n\r"[r.Intn(4):], r.Intn(8)/7)) }
	blank()
	defer blank()
	n := r.Intn(4)
	if r.Intn(6) == 0 {
		n = r.Intn(13)
	}
	switch kind := r.Intn(8); {
	case depth > 0 && kind < 2:
		b.WriteString("[")
		for i := range n {
			b.WriteString(","[:min(i, 1)])
			random(r, b, depth-1)
		}
		b.WriteString("]")
	case depth > 0 && kind < 4:
		b.WriteString("{")
		for i := range n {
			b.WriteString(","[:min(i, 1)])
			blank()
			b.WriteString(randomKey(r, i))
			blank()
			b.WriteString(":")
			random(r, b, depth-1)
		}
		b.WriteString("}")
	case kind == 4:
		b.WriteString(randomString(r, r.Intn(4)))
	case kind == 5:
		b.WriteString([]string{"null", "true", "false"}[r.Intn(3)])
	default:
		b.WriteString([]string{"0", "-1", "12.50", "1e3", "-0.1E-2", "9e9", strings.Repeat("7", 28+r.Intn(4)), "1e" + strconv.Itoa(995+r.Intn(8))}[r.Intn(8)])
	}
}

// randomKey writes the i-th key of a map, or now and then its first one again.
func randomKey(r *rand.Rand, i int) string {
	if r.Intn(40) == 0 {
		i = 0
	}
	return []string{`"k`, `"\u006B`, `"\u006b`}[r.Intn(3)] + strconv.Itoa(i) + `"`
}

// randomString writes a quoted string of n parts.
func randomString(r *rand.Rand, n int) string {
	out := `"`
	for range n {
		out += []string{"a", "é", "€", `\n`, `\u00e9`, `\"`, "\U0001f600", strings.Repeat("x", 30+r.Intn(20)), " ", "[,:]"}[r.Intn(10)]
	}
	return out + `"`
}

// spoiled changes a byte of text.
func spoiled(r *rand.Rand, text string) string {
	i := r.Intn(len(text) + 1)
	const bytes = "[]{},:\"\\19.e- \nnut\x00\xff\xc3\x80x"
	k := r.Intn(len(bytes))
	more := bytes[k : k+1]
	switch r.Intn(4) {
	case 0:
		return text[:i]
	case 1:
		return text[:i] + more + text[i:]
	case 2:
		return text[:i] + text[min(i+1, len(text)):]
	}
	return text[:i] + more + text[min(i+1, len(text)):]
}

// TestRandom holds long texts, and what becomes of them by small changes, against
// the model, also in pieces.
func TestRandom(t *testing.T) {
	r := rand.New(rand.NewSource(7))
	met := map[api.Errno]int{}
	for range 3000 {
		var b strings.Builder
		random(r, &b, 3+r.Intn(5))
		met[checkModel(t, b.String())]++
		for range 8 {
			text := spoiled(r, b.String())
			met[checkModel(t, text)]++
			checkRandomPieces(t, r, text)
		}
	}
	for _, e := range []api.Errno{
		api.OK, api.ErrSyntax, api.ErrUTF, api.ErrToken, api.ErrDepth, api.ErrTwice, api.ErrFields, api.ErrNumber, api.ErrEscape,
	} {
		if met[e] < 20 {
			t.Errorf("%v is met %d times", e, met[e])
		}
	}
}

// checkRandomPieces feeds a text in pieces of any lengths.
func checkRandomPieces(t *testing.T, r *rand.Rand, text string) {
	t.Helper()
	l, e, at := decode(t, text)
	var pieces []string
	for rest := text; rest != ""; {
		n := r.Intn(min(len(rest), 9) + 1)
		pieces = append(pieces, rest[:n])
		rest = rest[n:]
	}
	checkPieces(t, pieces, r.Intn(2) == 0, l, e, at)
}

// open returns the brackets that close what a text opens, whether it ends within
// a quoted string or not.
func open(text string) string {
	var closing []byte
	for i, within := 0, false; i < len(text); i++ {
		switch b := text[i]; {
		case within && b == '\\':
			i++
		case b == '"':
			within = !within
		case within:
		case b == '[', b == '{':
			closing = append(closing, b+2) // the codes of [] and of {} are two apart
		case b == ']', b == '}':
			closing = closing[:max(0, len(closing)-1)]
		}
	}
	slices.Reverse(closing)
	return string(closing)
}

// goesOn reports whether a text of JSON begins with text, and keeps it in known.
func goesOn(text string, known map[string]bool) bool {
	if goes, is := known[text]; is {
		return goes
	}
	closing := open(text)
	known[text] = slices.ContainsFunc([]string{
		"", "0", `"`, `":0`, `:0`, `"":0`, "ull", "ll", "l", "rue", "ue", "e", "alse", "lse", "se", `n"`, `n":0`,
	}, func(middle string) bool { return json.Valid([]byte(text + middle + closing)) })
	return known[text]
}

// TestJSON holds short texts against a reader of JSON: the texts without errors
// are those of JSON, and an error is met at the first byte with which none of
// them begins. (No key can stand twice here, and no limit can be met.)
func TestJSON(t *testing.T) {
	known := map[string]bool{}
	for alphabet, length := range map[string]int{"[]{}:,\"0 ": 6, "[trufalse,n]": 5, "-0.1eE+, ": 5, "{\"\\n\n\t}0": 6} {
		for text := range texts.Short(alphabet, length) {
			_, e, at := decode(t, text)
			switch e {
			case api.OK:
				if !json.Valid([]byte(text)) {
					t.Fatalf("%q: OK", text)
				}
			case api.ErrSyntax, api.ErrEscape:
				first := at == len(text) && !json.Valid([]byte(text)) || at < len(text) && !goesOn(text[:at+1], known)
				if !first || !goesOn(text[:at], known) {
					t.Fatalf("%q: %v %d", text, e, at)
				}
			default:
				t.Fatalf("%q: %v %d", text, e, at)
			}
		}
	}
}
