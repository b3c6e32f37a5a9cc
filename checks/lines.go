package checks

import (
	"strings"

	"hexapla/api"
	"hexapla/texts"
)

// Where each line is examined as a whole, at its end, bytes of it that are no
// characters and its length come ahead of all else: then nothing of it is told.

// shown returns how many bytes of a text show the error of its end, if there is
// one: those up to its byte, or up to the end of its line.
func (s Syntax) shown(text string, end Result) int {
	if !s.Lines || end.Err == api.ErrUTF {
		return end.At + 1
	}
	if first := 1 + strings.LastIndexByte(text[:end.At], '\n'); end.At-first == api.MaxLine {
		return end.At + 1
	}
	return end.At + 1 + strings.IndexByte(text[end.At:]+"\n", '\n')
}

// unseen returns a text with an error that no other end of the line, or of the
// text, ahead of it makes another one.
func (s Syntax) unseen() string {
	if s.Lines {
		return "\n\xff"
	}
	return "\xff"
}

// seen returns what is told of a text in the first line where a byte that is of
// no character follows in the line.
func (s Syntax) seen(ahead texts.Pair) string {
	if s.Lines {
		return ""
	}
	return ahead.Want
}

// ReadLines returns what a model makes of a text whose lines are examined as
// wholes. The model goes from one to the other by NextLine.
func ReadLines(text string, model func(r *Reader)) Result {
	r := &Reader{lines: text}
	e := r.run(model)
	return Result{r.told, e, r.At}
}

// NextLine goes to the beginning of the next line, with all ahead of its end as
// Text, and reports whether there is one. It fails if the line is not examined.
func (r *Reader) NextLine() bool {
	r.At = min(r.next, len(r.lines))
	if r.At == len(r.lines) {
		r.Text = r.lines
		return false
	}
	line, _, _ := strings.Cut(r.lines[r.At:], "\n")
	r.next = r.At + len(line) + 1
	r.Text = r.lines[:r.At+len(line)]
	// The newline, if there is one, is what does not continue an open character.
	at, is := noCharacter(r.lines[r.At:min(r.next, len(r.lines))])
	switch {
	case len(line) > api.MaxLine && (!is || at > api.MaxLine):
		r.At += api.MaxLine
		r.Fail(api.ErrToken)
	case is:
		r.At += at
		r.Fail(api.ErrUTF)
	}
	return true
}
