package checks

import (
	"slices"
	"strconv"
	"strings"

	"hexapla/api"
)

// Pieces feeds a text in pieces, and asks for the events between them, or only
// in the end. It holds the result, and that the end does not come early.
func (s Syntax) Pieces(t T, pieces []string, between bool, want Result) {
	t.Helper()
	text := strings.Join(pieces, "")
	f := &feeding{Decoder: s.New(), shown: s.shown(text, want)}
	if between {
		f.ask(want)
	}
	for _, piece := range pieces {
		f.feed(piece, true)
		if between {
			f.ask(want)
		}
	}
	f.finish(want)
	f.report(t, text)
}

// Each holds the result of a text in pieces of each length up to that of the
// text (of a long text: of some), and with empty pieces among them.
func (s Syntax) Each(t T, text string, want Result) {
	t.Helper()
	for n := 1; ; n += 1 + n/8 {
		pieces := cut(text, n)
		var sparse []string
		for _, piece := range pieces {
			sparse = append(sparse, "", piece, "", "")
		}
		for _, between := range []bool{true, false} {
			s.Pieces(t, pieces, between, want)
			s.Pieces(t, sparse, between, want)
		}
		if n >= len(text) {
			return
		}
	}
}

// cut returns the pieces of n bytes of a text; the last one may be shorter.
func cut(text string, n int) []string {
	var pieces []string
	for piece := range slices.Chunk([]byte(text), n) {
		pieces = append(pieces, string(piece))
	}
	return pieces
}

// Divisions holds that all divisions of a short text into pieces are the same.
func (s Syntax) Divisions(t T, text string) {
	t.Helper()
	want := s.Read(t, text)
	for cuts := range 1 << max(0, len(text)-1) {
		var pieces []string
		begin := 0
		for i := 1; i < len(text); i++ {
			if cuts>>(i-1)&1 == 1 {
				pieces = append(pieces, text[begin:i])
				begin = i
			}
		}
		pieces = append(pieces, text[begin:])
		s.Pieces(t, pieces, true, want)
		s.Pieces(t, pieces, false, want)
	}
}

// FedBehind holds that a decoder with an error takes what it is fed, until it is
// closed, and changes nothing.
func (s Syntax) FedBehind(t T, text string, pieces ...string) {
	t.Helper()
	want := s.Read(t, text)
	if want.Err == api.OK || want.At == len(text) {
		t.Error(strconv.Quote(text), "has no error ahead of its end")
	}
	for _, piece := range pieces {
		s.Pieces(t, []string{text, piece, piece}, true, want)
		s.Pieces(t, []string{text, piece, piece}, false, want)
	}
}

// Long holds the events of a text without errors that is too long for Check.
func (s Syntax) Long(t T, text, want string) {
	t.Helper()
	got := s.Read(t, text)
	if got.Written() != tell(want, api.OK, len(text)) {
		t.Error("a long text has", len(got.Events), "events,", tell("", got.Err, got.At))
	}
	for _, n := range []int{1, 7, 4096, len(text)} {
		s.Pieces(t, cut(text, n), n > 1, got)
	}
}
