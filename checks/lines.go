package checks

import (
	"strings"

	"hexapla/api"
	"hexapla/texts"
)

// Where each line is examined as a whole, at its end, bytes of it that are no
// characters and its length come ahead of all else: then nothing of it is told.

// CheckLines holds the events of a text without errors, also with a newline
// behind it.
func (s Syntax) CheckLines(t T, text, want string) {
	t.Helper()
	s.CheckOK(t, text, want)
	s.Whole(t, text+"\n", want, api.OK, len(text)+1)
}

// CheckOpenLine holds the events of a text whose last line is incomplete where
// it ends, also with another line behind it.
func (s Syntax) CheckOpenLine(t T, text, line, want string) {
	t.Helper()
	s.CheckOpen(t, text, want)
	s.Check(t, text+"\n", want, api.ErrSyntax, len(text))
	s.Check(t, text+"\n"+line+"\n", want, api.ErrSyntax, len(text))
}

// NoLines holds lines with bytes that form no characters, and lines that are too
// long, behind a text that has some events.
func (s Syntax) NoLines(t T, ahead texts.Pair, begins ...string) {
	t.Helper()
	for _, begin := range begins {
		s.noCharacters(t, ahead, begin)
		for _, fill := range []string{"x", " ", "\t", "[", "1"} {
			s.tooLong(t, ahead, begin+strings.Repeat(fill, api.MaxLine-len(begin)))
		}
	}
}

// noCharacters holds bytes that form no characters in a line that begins so.
func (s Syntax) noCharacters(t T, ahead texts.Pair, begin string) {
	t.Helper()
	for _, bytes := range []string{"\xff", "\x80", "\xc0", "\xf5", "\xc3\xc3", "\xc3a", "\xe2\x82 ", "\xed\xa0", "\xf0\x9f\x98\"", "\xc3\n", "\xe2\x82\n", "\xf0\x9f\x98\n"} {
		s.CheckLast(t, ahead.Text+begin+bytes, ahead.Want, api.ErrUTF)
	}
	for _, bytes := range texts.CutCharacters() {
		text := ahead.Text + begin + bytes
		s.Check(t, text, ahead.Want, api.ErrUTF, len(text))
	}
}

// tooLong holds what goes on behind a line that is as long as it may.
func (s Syntax) tooLong(t T, ahead texts.Pair, line string) {
	t.Helper()
	end := len(ahead.Text) + api.MaxLine
	for _, more := range []string{"x", " ", "\t", "#", "\"", "]", "\x00"} {
		s.CheckLast(t, ahead.Text+line+more, ahead.Want, api.ErrToken)
	}
	for _, more := range []string{"\xc3\xa9", "\xc3", "x\xff"} { // behind the byte
		s.Check(t, ahead.Text+line+more, ahead.Want, api.ErrToken, end)
	}
	s.CheckLast(t, ahead.Text+line+"\xff", ahead.Want, api.ErrUTF) // both at one byte
	line = line[:api.MaxLine-1]
	s.CheckLast(t, ahead.Text+line+"\xff", ahead.Want, api.ErrUTF)
	s.CheckLast(t, ahead.Text+line+"\xc3\n", ahead.Want, api.ErrUTF)
	s.CheckLast(t, ahead.Text+line+"\xc3\xc3", ahead.Want, api.ErrUTF)
	s.Check(t, ahead.Text+line+"\xc3", ahead.Want, api.ErrUTF, end)
	s.Check(t, ahead.Text+line+"\xc3\xa9", ahead.Want, api.ErrToken, end) // within a character
}

// shown returns how many bytes of a text show the error of its end, if there is
// one: those up to its byte, or up to the end of its line.
func (s Syntax) shown(text string, end Result) int {
	if !s.Lines || end.Err == api.ErrUTF {
		return end.At + 1
	}
	if first := 1 + strings.LastIndexByte(text[:end.At], '\n'); end.At-first == api.MaxLine {
		return end.At + 1
	}
	return end.At + 1 + strings.IndexByte(text[end.At:]+"\n", '\n')
}

// unseen returns a text with an error that no other end of the line, or of the
// text, ahead of it makes another one.
func (s Syntax) unseen() string {
	if s.Lines {
		return "\n\xff"
	}
	return "\xff"
}

// seen returns what is told of a text in the first line where a byte that is of
// no character follows in the line.
func (s Syntax) seen(ahead texts.Pair) string {
	if s.Lines {
		return ""
	}
	return ahead.Want
}

// ReadLines returns what a model makes of a text whose lines are examined as
// wholes. The model goes from one to the other by NextLine.
func ReadLines(text string, model func(r *Reader)) Result {
	r := &Reader{lines: text}
	e := r.run(model)
	return Result{r.told, e, r.At}
}

// NextLine goes to the beginning of the next line, with all ahead of its end as
// Text, and reports whether there is one. It fails if the line is not examined.
func (r *Reader) NextLine() bool {
	r.At = min(r.next, len(r.lines))
	if r.At == len(r.lines) {
		r.Text = r.lines
		return false
	}
	line, _, _ := strings.Cut(r.lines[r.At:], "\n")
	r.next = r.At + len(line) + 1
	r.Text = r.lines[:r.At+len(line)]
	// The newline, if there is one, is what does not continue an open character.
	at, is := noCharacter(r.lines[r.At:min(r.next, len(r.lines))])
	switch {
	case len(line) > api.MaxLine && (!is || at > api.MaxLine):
		r.At += api.MaxLine
		r.Fail(api.ErrToken)
	case is:
		r.At += at
		r.Fail(api.ErrUTF)
	}
	return true
}
