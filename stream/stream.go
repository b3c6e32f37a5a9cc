// Package stream is the common part of all decoders: it takes a text in chunks,
// refuses bytes that form no characters, and keeps the events until they are
// asked for. What the bytes mean is left to the state machine of a syntax. See
// 'Decoders' in the section 'Words' of shared/DOC.md.
package stream

import (
	"hexapla/api"
	"hexapla/events"
	"hexapla/src"
)

// Machine is the state machine of a syntax, for one text. After an error, it is
// not called any more.
type Machine interface {
	// Step processes the next byte: it tells the events that are reported at it,
	// and returns the error that is met there, or OK.
	Step(b byte, out *Out) api.Errno
	// End does the same for the end of the text.
	End(out *Out) api.Errno
}

// Out takes the events that a machine tells.
type Out struct {
	check   *events.Check
	waiting []api.Event // to be asked for
	back    int         // from the byte to the one at which an error is met
}

// Tell adds x to the events, or returns the error with which it is refused: by
// the check of documents, or by one of others, which are asked behind that.
func (o *Out) Tell(x api.Event, others ...func(api.Event) api.Errno) api.Errno {
	if e := o.check.Step(x); e != api.OK {
		return e
	}
	for _, other := range others {
		if e := other(x); e != api.OK {
			return e
		}
	}
	o.waiting = append(o.waiting, x)
	return api.OK
}

// Back lets the error that a machine then returns be one that is met n bytes
// ahead of where it stands.
func (o *Out) Back(n int) { o.back = n }

// take removes the first event that is waiting.
func (o *Out) take() api.Event {
	x := o.waiting[0]
	o.waiting[0] = api.Event{} // ahead of the slice, its texts would be kept
	o.waiting = o.waiting[1:]
	return x
}

// Stream is a decoder, but for its syntax.
type Stream struct {
	machine Machine
	scan    *src.Scan
	out     *Out
	err     api.Errno
	read    int // the bytes so far, but for one with which an error was shown
	closed  bool
	ended   bool // Next has returned Done or Failed
}

// New returns a Stream that has read nothing.
func New(m Machine) *Stream {
	return &Stream{machine: m, scan: src.New(), out: &Out{check: events.New()}}
}

// Feed appends b to the text, and reports whether it was not closed yet.
func (s *Stream) Feed(b []byte) bool {
	if s.closed {
		return false
	}
	for i := 0; i < len(b) && s.err == api.OK; i++ {
		s.step(b[i])
	}
	return true
}

func (s *Stream) step(b byte) {
	if s.scan.Step(b) {
		s.err = s.machine.Step(b, s.out)
	} else {
		s.err = api.ErrUTF
	}
	if s.err == api.OK {
		s.read++
	}
}

// Close ends the text.
func (s *Stream) Close() {
	if !s.closed && s.err == api.OK {
		s.err = s.end()
	}
	s.closed = true
}

// end returns the error that is met at the end of the text.
func (s *Stream) end() api.Errno {
	if !s.scan.Whole() {
		return api.ErrUTF
	}
	return s.machine.End(s.out)
}

// Next returns Got and the next event, or why there is none.
func (s *Stream) Next() (api.Event, api.State) {
	switch {
	case len(s.out.waiting) > 0:
		return s.out.take(), api.Got
	case s.err != api.OK:
		s.ended = true
		return api.Event{}, api.Failed
	case s.closed:
		s.ended = true
		return api.Event{}, api.Done
	}
	return api.Event{}, api.More
}

// End returns the end of the text, once Next has returned Done or Failed. Before
// that, it returns OK and -1.
func (s *Stream) End() (api.Errno, int) {
	if !s.ended {
		return api.OK, -1
	}
	return s.err, s.at()
}

// at returns where the error is met, or how long the text is.
func (s *Stream) at() int { return s.read - s.out.back }

// Decode returns all events and the end of a text that m has not met.
func Decode(m Machine, text []byte) ([]api.Event, api.Errno, int) {
	s := New(m)
	s.Feed(text)
	s.Close()
	return s.out.waiting, s.err, s.at()
}
