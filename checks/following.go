package checks

import (
	"strconv"
	"strings"

	"hexapla/api"
	"hexapla/texts"
)

// Following holds which bytes may stand behind a text that has some events, of
// those from 0 to 127, and of some with which longer characters begin. At any
// other of them, ErrSyntax is met, and at none that may.
func (s Syntax) Following(t T, ahead texts.Pair, may string) {
	t.Helper()
	for b := range 0x80 {
		s.follow(t, ahead, string([]byte{byte(b)}), may)
	}
	for _, next := range []string{"\xc3", "\xe2", "\xf0"} {
		s.follow(t, ahead, next, may)
	}
}

// follow holds whether one of them may.
func (s Syntax) follow(t T, ahead texts.Pair, next, may string) {
	t.Helper()
	if !strings.Contains(may, next) {
		s.CheckLast(t, ahead.Text+next, ahead.Want, api.ErrSyntax)
		return
	}
	if r := s.Read(t, ahead.Text+next); r.Err == api.ErrSyntax && r.At <= len(ahead.Text) {
		t.Error(strconv.Quote(ahead.Text+next)+":", r.Written())
	}
}
