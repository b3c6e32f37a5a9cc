package checks

import (
	"hexapla/api"
	"hexapla/texts"
)

// NoNumbers holds what is no number behind a text that has some events, also with
// something behind it with which no number goes on.
func (s Syntax) NoNumbers(t T, ahead texts.Pair, ends ...string) {
	t.Helper()
	for _, text := range texts.OpenNumbers() {
		s.CheckOpen(t, ahead.Text+text, ahead.Want)
		s.CheckLast(t, ahead.Text+text+"\xff", ahead.Want, api.ErrUTF)
		for _, end := range ends {
			s.CheckLast(t, ahead.Text+text+end, ahead.Want, api.ErrSyntax)
		}
	}
	for _, text := range texts.TooLongNumbers() {
		s.CheckLast(t, ahead.Text+text, ahead.Want, api.ErrToken)
		s.CheckLast(t, ahead.Text+text[:len(text)-1]+"\xff", ahead.Want, api.ErrUTF)
	}
	for _, text := range texts.RefusedNumbers() {
		s.Check(t, ahead.Text+text, ahead.Want, api.ErrNumber, len(ahead.Text+text))
		s.CheckLast(t, ahead.Text+text+"\xff", ahead.Want, api.ErrUTF)
		for _, end := range ends { // ahead of any other error there
			s.CheckLast(t, ahead.Text+text+end, ahead.Want, api.ErrNumber)
		}
	}
}

// NoStrings holds what is no quoted string behind a text that has some events.
func (s Syntax) NoStrings(t T, ahead texts.Pair) {
	t.Helper()
	for _, text := range texts.OpenQuoted() {
		s.CheckOpen(t, ahead.Text+text, ahead.Want)
	}
	for _, bytes := range texts.CutCharacters() {
		text := ahead.Text + `"é` + bytes
		s.Check(t, text, ahead.Want, api.ErrUTF, len(text))
	}
	for _, l := range texts.WrongQuoted() {
		s.CheckLast(t, ahead.Text+l.Text, ahead.Want, l.Err)
	}
}
