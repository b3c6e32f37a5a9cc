// Package checks holds decoders against what is promised of all of them. Only
// the tests of their packages use it.
package checks

import (
	"strconv"

	"hexapla/api"
	"hexapla/events"
)

// T is told what is wrong: a *testing.T.
type T interface {
	Helper()
	Error(words ...any)
	Fatal(words ...any)
}

// Decoder is what New returns.
type Decoder interface {
	Feed(b []byte) bool
	Close()
	Next() (api.Event, api.State)
	End() (api.Errno, int)
}

// Syntax is the package of a decoder.
type Syntax struct {
	New    func() Decoder
	Decode func(text []byte) ([]api.Event, api.Errno, int)
	Lines  bool // each line is examined as a whole: see lines.go
}

// Result is what a text is decoded to.
type Result struct {
	Events []api.Event
	Err    api.Errno
	At     int
}

// Written writes a result, the same only for the same one.
func (r Result) Written() string { return tell(Written(r.Events), r.Err, r.At) }

func tell(events string, e api.Errno, at int) string {
	return events + ", " + e.Error() + " at " + strconv.Itoa(at)
}

// Read decodes a text at once, and holds what is promised of all texts.
func (s Syntax) Read(t T, text string) Result {
	t.Helper()
	b := []byte(text + "spare")
	l, e, at := s.Decode(b[:len(text)])
	if string(b) != text+"spare" {
		t.Error("Decode changed", strconv.Quote(text), "into", strconv.Quote(string(b)))
	}
	r := Result{l, e, at}
	if !r.promised(len(text)) {
		t.Error(strconv.Quote(text), "is decoded to what none may be:", r.Written())
	}
	return r
}

// promised reports whether the end may be that of a text of some length, and
// the events are a document if there is no error, or can be extended to one.
func (r Result) promised(length int) bool {
	if r.At < 0 || r.At > length || r.Err == api.OK && r.At != length {
		return false
	}
	c := events.New() // whatever it accepts can be extended
	for _, x := range r.Events {
		if c.Step(x) != api.OK {
			return false
		}
	}
	return r.Err != api.OK || c.Done()
}

// Whole holds the events of a text, as Written writes them, and its end, when it
// is decoded at once, and returns what it is decoded to.
func (s Syntax) Whole(t T, text, want string, e api.Errno, at int) Result {
	t.Helper()
	got := s.Read(t, text)
	if got.Written() != tell(want, e, at) {
		t.Error(strconv.Quote(text)+":", got.Written(), "is not", tell(want, e, at))
	}
	return got
}

// Check does so also when the text is decoded in pieces.
func (s Syntax) Check(t T, text, want string, e api.Errno, at int) {
	t.Helper()
	s.Each(t, text, s.Whole(t, text, want, e, at))
}

// CheckOK holds the events of a text without errors.
func (s Syntax) CheckOK(t T, text, want string) {
	t.Helper()
	s.Check(t, text, want, api.OK, len(text))
}

// CheckLast holds the events of a text whose error is met at its last byte,
// whatever follows.
func (s Syntax) CheckLast(t T, text, want string, e api.Errno) {
	t.Helper()
	s.Check(t, text, want, e, len(text)-1)
	for _, more := range []string{"]", ")", s.unseen()} {
		r := s.Whole(t, text+more, want, e, len(text)-1)
		s.Pieces(t, []string{text, more}, true, r)
	}
}

// CheckOpen holds the events of a text that is incomplete.
func (s Syntax) CheckOpen(t T, text, want string) {
	t.Helper()
	s.Check(t, text, want, api.ErrSyntax, len(text))
}
