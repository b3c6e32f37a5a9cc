package checks

import (
	"slices"
	"strconv"
	"unicode/utf8"

	"hexapla/api"
	"hexapla/num"
	"hexapla/quote"
	"hexapla/texts"
)

// Reader is what the models of syntaxes have in common. A model has a whole text
// ahead of it, and reads it by the sentences of a chapter, each a function.
type Reader struct {
	Text  string
	At    int
	told  []api.Event
	where []int      // each of them is reported
	keys  [][]string // of each open value, also of those that have none
	lines string     // of which Text is what is ahead of the end of one
	next  int        // where the next one begins
}

// failure is what a reader stops with.
type failure struct{ e api.Errno }

// Fail ends the reading with an error that is met at the byte at.
func (r *Reader) Fail(e api.Errno) { panic(failure{e}) }

// Tell reports an event at the byte at.
func (r *Reader) Tell(x api.Event) {
	r.told, r.where = append(r.told, x), append(r.where, r.At)
}

// Next returns the byte at, or 0 at the end.
func (r *Reader) Next() byte {
	if r.At < len(r.Text) {
		return r.Text[r.At]
	}
	return 0
}

// Expect goes over a byte that must be there.
func (r *Reader) Expect(b byte) {
	if r.Next() != b {
		r.Fail(api.ErrSyntax)
	}
	r.At++
}

// Last reports an event at the byte at, and goes over it.
func (r *Reader) Last(x api.Event) {
	r.Tell(x)
	r.At++
}

// Open counts one more open value.
func (r *Reader) Open() {
	if len(r.keys) == api.MaxDepth {
		r.Fail(api.ErrDepth)
	}
	r.keys = append(r.keys, nil)
}

// Key counts one more key, or attribute, of the innermost open value.
func (r *Reader) Key(key string) {
	keys := &r.keys[len(r.keys)-1]
	if slices.Contains(*keys, key) {
		r.Fail(api.ErrTwice)
	}
	if len(*keys) == api.MaxFields {
		r.Fail(api.ErrFields)
	}
	*keys = append(*keys, key)
}

// Shut counts one open value less.
func (r *Reader) Shut() { r.keys = r.keys[:len(r.keys)-1] }

// Number reads a number, which is as long as possible, and reports it behind it.
func (r *Reader) Number() { r.Tell(api.Event{Kind: api.Number, Text: r.Form()}) }

// Form reads a number, which is as long as possible, and returns its normal form.
func (r *Reader) Form() string {
	first := r.At
	for r.At < len(r.Text) {
		if begins, _ := num.May(r.Text[first : r.At+1]); !begins {
			break
		}
		if r.At-first == api.MaxDigits {
			r.Fail(api.ErrToken)
		}
		r.At++
	}
	if _, whole := num.May(r.Text[first:r.At]); !whole { // nothing at all is none, either
		r.Fail(api.ErrSyntax)
	}
	form, e := num.Read(r.Text[first:r.At])
	if e != api.OK {
		r.Fail(api.ErrNumber)
	}
	return form
}

// Quoted reads a quoted string, but for its closing ", and returns its contents.
func (r *Reader) Quoted() string {
	r.Expect('"')
	q := quote.New()
	for ; r.At < len(r.Text); r.At++ {
		closed, e := q.Step(r.Text[r.At])
		if e != api.OK {
			r.Fail(e)
		}
		if closed {
			return q.Text()
		}
	}
	r.Fail(api.ErrSyntax)
	return ""
}

// Read returns what a model makes of a text.
func Read(text string, model func(r *Reader)) Result {
	r := &Reader{Text: text}
	e := r.run(model)
	if at, is := noCharacter(text); is && at <= r.At { // ahead of what is met there
		n := 0
		for n < len(r.told) && r.where[n] < at {
			n++
		}
		return Result{r.told[:n], api.ErrUTF, at}
	}
	return Result{r.told, e, r.At}
}

// run returns the error with which a model ends.
func (r *Reader) run(model func(r *Reader)) (e api.Errno) {
	defer func() {
		switch f := recover().(type) {
		case failure:
			e = f.e
		case nil:
		default:
			panic(f)
		}
	}()
	model(r)
	if r.At < len(r.Text) {
		return api.ErrSyntax
	}
	return api.OK
}

// noCharacter returns where the bytes of a text do not continue those before
// them, or its length if it ends within a character, and whether one of both is.
func noCharacter(text string) (int, bool) {
	whole := 0
	for whole < len(text) {
		r, size := utf8.DecodeRuneInString(text[whole:])
		if r == utf8.RuneError && size == 1 {
			break
		}
		whole += size
	}
	at := whole
	for at < len(text) && startsCharacter(text[whole:at+1]) {
		at++
	}
	return at, whole < len(text)
}

// startsCharacter reports whether some character begins with these bytes.
func startsCharacter(bytes string) bool {
	return slices.ContainsFunc([]string{"", "\x80", "\x80\x80", "\x80\x80\x80", "\xa0\x80", "\x90\x80\x80"}, func(more string) bool {
		return utf8.ValidString(bytes + more)
	})
}

// Against holds a text against a model, and returns its error. The first fault is
// the last one, as tests go through very many texts.
func (s Syntax) Against(t T, text string, model func(r *Reader)) api.Errno {
	t.Helper()
	read := Read
	if s.Lines {
		read = ReadLines
	}
	got, want := s.Read(t, text), read(text, model)
	if !slices.Equal(got.Events, want.Events) || got.Err != want.Err || got.At != want.At {
		t.Fatal(strconv.Quote(text)+":", got.Written(), "is not", want.Written())
	}
	return got.Err
}

// AgainstCut holds a text against a model, also when it is cut into pieces whose
// lengths pick gives, from 0 up to what it is given, but for that.
func (s Syntax) AgainstCut(t T, text string, model func(r *Reader), pick func(n int) int) api.Errno {
	t.Helper()
	e := s.Against(t, text, model)
	var pieces []string
	for rest := text; rest != ""; {
		n := pick(min(len(rest), 9) + 1)
		pieces = append(pieces, rest[:n])
		rest = rest[n:]
	}
	s.Pieces(t, pieces, pick(2) == 0, s.Read(t, text))
	return e
}

// Random holds the texts that write makes, and what becomes of them by small
// changes that put some bytes in, against a model, also in pieces, and that each
// of these errors is met often. For pick see texts.Spoiled.
func (s Syntax) Random(t T, model func(r *Reader), write func() string, bytes string, pick func(n int) int, errs ...api.Errno) {
	t.Helper()
	met := map[api.Errno]int{}
	for range 3000 {
		text := write()
		met[s.Against(t, text, model)]++
		for range 8 {
			met[s.AgainstCut(t, texts.Spoiled(text, bytes, pick), model, pick)]++
		}
	}
	for _, e := range errs {
		if met[e] < 20 {
			t.Error(e.Error(), "is met", strconv.Itoa(met[e]), "times")
		}
	}
}
