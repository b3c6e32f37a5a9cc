package checks

import (
	"hexapla/api"
	"hexapla/texts"
)

// NoNumbers holds what is no number behind a text that has some events, also with
// something behind it with which no number goes on. In a syntax of lines, the text
// is in the first one.
func (s Syntax) NoNumbers(t T, ahead texts.Pair, ends ...string) {
	t.Helper()
	for _, text := range texts.OpenNumbers() {
		s.CheckOpen(t, ahead.Text+text, ahead.Want)
		s.CheckLast(t, ahead.Text+text+"\xff", s.seen(ahead), api.ErrUTF)
		for _, end := range ends {
			s.CheckLast(t, ahead.Text+text+end, ahead.Want, api.ErrSyntax)
		}
	}
	for _, text := range texts.TooLongNumbers() {
		s.CheckLast(t, ahead.Text+text, ahead.Want, api.ErrToken)
		s.CheckLast(t, ahead.Text+text[:len(text)-1]+"\xff", s.seen(ahead), api.ErrUTF)
	}
	for _, text := range texts.RefusedNumbers() {
		s.Check(t, ahead.Text+text, ahead.Want, api.ErrNumber, len(ahead.Text+text))
		s.CheckLast(t, ahead.Text+text+"\xff", s.seen(ahead), api.ErrUTF)
		for _, end := range ends { // ahead of any other error there
			s.CheckLast(t, ahead.Text+text+end, ahead.Want, api.ErrNumber)
		}
	}
}

// NoStrings holds what is no quoted string behind a text that has some events. In
// a syntax of lines, the text is in the first one.
func (s Syntax) NoStrings(t T, ahead texts.Pair) {
	t.Helper()
	for _, text := range texts.OpenQuoted() {
		s.CheckOpen(t, ahead.Text+text, ahead.Want)
	}
	for _, bytes := range texts.CutCharacters() {
		text := ahead.Text + `"é` + bytes
		s.Check(t, text, s.seen(ahead), api.ErrUTF, len(text))
	}
	for _, l := range texts.WrongQuoted() {
		s.noString(t, ahead, l)
	}
}

// noString holds one of them, whose error is met at the last byte.
func (s Syntax) noString(t T, ahead texts.Pair, l texts.Wrong) {
	t.Helper()
	text := ahead.Text + l.Text
	switch last := l.Text[len(l.Text)-1]; {
	case l.Err == api.ErrUTF:
		s.CheckLast(t, text, s.seen(ahead), l.Err)
	case s.Lines && last == '\n': // which is not in the string
		s.CheckLast(t, text, ahead.Want, api.ErrSyntax)
	case s.Lines && last == 0xC3: // which must be completed
		s.Check(t, text+"\xa9", ahead.Want, l.Err, len(text)-1)
	default:
		s.CheckLast(t, text, ahead.Want, l.Err)
	}
}
