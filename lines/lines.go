// Package lines is what decoders have in common whose texts consist of lines,
// each of which is examined as a whole when its end has been read. See 'Errors'
// in shared/doc/11-outline.md.
package lines

import (
	"hexapla/api"
	"hexapla/stream"
)

// Parser parses the lines of a text, one by one. It aborts by the methods of a
// Line, and is not called any more behind that.
type Parser interface {
	// Parse parses a line.
	Parse(l *Line)
	// End parses the end of the text, which stands as an empty line behind all.
	End(l *Line)
}

// Machine is the state machine of a syntax whose lines a Parser parses.
type Machine struct {
	parser Parser
	others []func(api.Event) api.Errno
	open   []byte // the bytes of the line that has not ended
}

// New returns a machine for one text. For others, which are asked of all events
// of the text, see stream.Out.
func New(p Parser, others ...func(api.Event) api.Errno) *Machine {
	return &Machine{parser: p, others: others}
}

// Step processes the next byte.
func (m *Machine) Step(b byte, out *stream.Out) api.Errno {
	if b == '\n' {
		return m.endLine(out)
	}
	if len(m.open) == api.MaxLine {
		return api.ErrToken
	}
	m.open = append(m.open, b)
	return api.OK
}

// endLine examines the open line.
func (m *Machine) endLine(out *stream.Out) api.Errno {
	l := m.line(string(m.open), out)
	m.open = m.open[:0]
	return l.examine(m.parser.Parse)
}

func (m *Machine) line(text string, out *stream.Out) *Line {
	return &Line{Text: text, out: out, others: m.others}
}

// End processes the end of the text.
func (m *Machine) End(out *stream.Out) api.Errno {
	if len(m.open) > 0 {
		if e := m.endLine(out); e != api.OK {
			return e
		}
	}
	return m.line("", out).examine(m.parser.End)
}
