package lines

import (
	"hexapla/api"
	"hexapla/quote"
	"hexapla/stream"
	"hexapla/token"
)

// Line is a line, without its newline, that is read from the beginning.
type Line struct {
	Text   string
	At     int // where the line is read: all bytes ahead of it have been
	out    *stream.Out
	others []func(api.Event) api.Errno
}

// failure is what the parsing of a line is aborted with.
type failure struct{ err api.Errno }

// Fail aborts the parsing with an error that is met at the byte at which the
// line is read.
func (l *Line) Fail(e api.Errno) { panic(failure{e}) }

// Must aborts the parsing if e is an error.
func (l *Line) Must(e api.Errno) {
	if e != api.OK {
		l.Fail(e)
	}
}

// attempt returns the error with which parse aborts, or OK.
func attempt(parse func()) (e api.Errno) {
	defer func() {
		switch f := recover().(type) {
		case nil:
		case failure:
			e = f.err
		default:
			panic(f)
		}
	}()
	parse()
	return api.OK
}

// examine returns the error with which the line is parsed, or OK, and lets it
// be met where the line was read last.
func (l *Line) examine(parse func(l *Line)) api.Errno {
	e := attempt(func() { parse(l) })
	if e != api.OK {
		l.out.Back(len(l.Text) - l.At)
	}
	return e
}

// Fits reports whether parse, which is to tell nothing, does not abort. Behind
// it, the line is read from where it was.
func (l *Line) Fits(parse func()) bool {
	at := l.At
	e := attempt(parse)
	l.At = at
	return e == api.OK
}

// Over reports whether all of the line has been read.
func (l *Line) Over() bool { return l.At == len(l.Text) }

// Is reports whether the next byte is b.
func (l *Line) Is(b byte) bool { return !l.Over() && l.Text[l.At] == b }

// Meet aborts unless the next byte is b.
func (l *Line) Meet(b byte) {
	if !l.Is(b) {
		l.Fail(api.ErrSyntax)
	}
}

// Expect reads a byte that must be b.
func (l *Line) Expect(b byte) {
	l.Meet(b)
	l.At++
}

// Blanks reads as many bytes 32 as there are.
func (l *Line) Blanks() {
	for l.Is(' ') {
		l.At++
	}
}

// Comment reads the blanks that the line begins with, and reports whether it is
// a comment, which has no meaning.
func (l *Line) Comment() bool {
	l.Blanks()
	return l.Over() || l.Is('#')
}

// Finish reads the blanks that the line ends with.
func (l *Line) Finish() {
	l.Blanks()
	if !l.Over() {
		l.Fail(api.ErrSyntax)
	}
}

// NameAhead reports whether a local name begins with the next byte.
func (l *Line) NameAhead() bool { return !l.Over() && (&token.Name{}).Goes(l.Text[l.At]) }

// Tell tells an event that is reported at the next byte.
func (l *Line) Tell(x api.Event) { l.Must(l.out.Tell(x, l.others...)) }

// Last tells an event that is reported at the next byte, which is read then.
func (l *Line) Last(x api.Event) {
	l.Tell(x)
	l.At++
}

// The functions below read a token, but for its last byte, at which an event is
// to be told or an error of it is met.

// Word reads a word.
func (l *Line) Word(word string) {
	last := len(word) - 1
	for i := range last {
		l.Expect(word[i])
	}
	l.Meet(word[last])
}

// Quoted reads a quoted string, and returns its contents.
func (l *Line) Quoted() string {
	l.Expect('"')
	for q := quote.New(); !l.Over(); l.At++ {
		closed, e := q.Step(l.Text[l.At])
		l.Must(e)
		if closed {
			return q.Text()
		}
	}
	l.Fail(api.ErrSyntax)
	return ""
}

// Name reads a local name, which is as long as possible.
func (l *Line) Name() string { return l.longest(&token.Name{}) }

// Bare reads a local name without a dot, which is as long as possible.
func (l *Line) Bare() string { return l.longest(&token.Bare{}) }

// Number reads a number, which is as long as possible, and returns its normal
// form. The error of one that may not be is met at the byte behind it.
func (l *Line) Number() string { return l.longest(&token.Number{}) }

// open is an open token that is to be as long as possible.
type open interface {
	Goes(b byte) bool
	Add(b byte) api.Errno
	End() (string, api.Errno)
}

func (l *Line) longest(t open) string {
	for ; !l.Over() && t.Goes(l.Text[l.At]); l.At++ {
		l.Must(t.Add(l.Text[l.At]))
	}
	text, e := t.End()
	l.Must(e)
	l.At--
	return text
}

// Parts reads what stands between two brackets, of which the first has been
// read: parts with commas between them, and blanks.
func (l *Line) Parts(closing byte, part func()) {
	l.Blanks()
	if l.Is(closing) {
		return
	}
	part()
	for l.Blanks(); l.Is(','); l.Blanks() {
		l.At++
		l.Blanks()
		part()
	}
	l.Meet(closing)
}

// Value reads and tells a value of a kind that syntaxes of lines have in common.
// A syntax says how the values of a list and the fields of a map are read.
func (l *Line) Value(value, field func()) {
	switch {
	case l.Is('['):
		l.Last(api.Event{Kind: api.List})
		l.Parts(']', value)
		l.Last(api.Event{Kind: api.EndList})
	case l.Is('{'):
		l.Last(api.Event{Kind: api.Map})
		l.Parts('}', field)
		l.Last(api.Event{Kind: api.EndMap})
	case l.Is('"'):
		l.Last(api.Event{Kind: api.Text, Text: l.Quoted()})
	case l.Is('t'):
		l.boolean("true")
	case l.Is('f'):
		l.boolean("false")
	default:
		l.Last(api.Event{Kind: api.Number, Text: l.Number()})
	}
}

func (l *Line) boolean(word string) {
	l.Word(word)
	l.Last(api.Event{Kind: api.Bool, Text: word})
}
