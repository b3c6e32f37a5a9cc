package lines_test

import (
	"slices"
	"strings"
	"testing"

	"hexapla/api"
	"hexapla/checks"
	"hexapla/lines"
	"hexapla/stream"
)

// parser is one whose functions may be nil, and which writes down what it is
// asked: the lines, and the end as a $.
type parser struct {
	parse func(l *lines.Line)
	end   func(l *lines.Line)
	asked []string
}

func (p *parser) Parse(l *lines.Line) {
	p.asked = append(p.asked, l.Text)
	if p.parse != nil {
		p.parse(l)
	}
}

func (p *parser) End(l *lines.Line) {
	p.asked = append(p.asked, l.Text+"$")
	if p.end != nil {
		p.end(l)
	}
}

// null is an event that a document may have alone.
var null = api.Event{Kind: api.Null}

func decode(p *parser, text string, others ...func(api.Event) api.Errno) ([]api.Event, api.Errno, int) {
	return stream.Decode(lines.New(p, others...), []byte(text))
}

func TestLines(t *testing.T) {
	long := strings.Repeat("x", 160)
	for _, l := range []struct {
		text  string
		e     api.Errno
		at    int
		asked []string
	}{
		{"", api.OK, 0, []string{"$"}},
		{"\n", api.OK, 1, []string{"", "$"}},
		{"a", api.OK, 1, []string{"a", "$"}},
		{"a\n", api.OK, 2, []string{"a", "$"}},
		{"a\n\n", api.OK, 3, []string{"a", "", "$"}},
		{"\na", api.OK, 2, []string{"", "a", "$"}},
		{" a \r\nbc\n#\x00é", api.OK, 12, []string{" a \r", "bc", "#\x00é", "$"}},
		{long + "\n" + long, api.OK, 321, []string{long, long, "$"}},
		{long + "x", api.ErrToken, 160, nil},
		{"a\n" + long + " \nb", api.ErrToken, 162, []string{"a"}},
		{"a\n" + long + "\xff", api.ErrUTF, 162, []string{"a"}},
		{"a\nb\xff", api.ErrUTF, 3, []string{"a"}},
		{"a\nb\xc3", api.ErrUTF, 4, []string{"a"}},
		{"a\nb\xc3\nc", api.ErrUTF, 4, []string{"a"}},
		{"a\nb!\nc", api.ErrNumber, 3, []string{"a", "b!"}},
		{"a\nb!d", api.ErrNumber, 3, []string{"a", "b!d"}},
		{"!\n\n\n", api.ErrNumber, 0, []string{"!"}},
		{"a\nb\n?", api.ErrSyntax, 4, []string{"a", "b", "?", "$"}},
		{"a\n?\n", api.ErrSyntax, 2, []string{"a", "?", "$"}},
	} {
		p := &parser{parse: func(line *lines.Line) {
			if line.At = strings.Index(line.Text, "!"); line.At >= 0 {
				line.Fail(api.ErrNumber)
			}
		}}
		wantAt := l.at
		if strings.Contains(l.text, "?") { // the error of the end is met there
			wantAt = len(l.text)
			p.end = func(line *lines.Line) { line.Must(api.OK); line.Must(api.ErrSyntax) }
		}
		got, e, at := decode(p, l.text)
		if len(got) != 0 || e != l.e || at != wantAt || !slices.Equal(p.asked, l.asked) {
			t.Errorf("%q: %v %v %d, asked %q", l.text, got, e, at, p.asked)
		}
	}
}

// TestWhenRead holds that a line is parsed with its newline, and not before.
func TestWhenRead(t *testing.T) {
	p := &parser{parse: func(l *lines.Line) { l.Tell(null); l.Fail(api.ErrDepth) }}
	s := stream.New(lines.New(p))
	s.Feed([]byte("abc"))
	if _, state := s.Next(); state != api.More || p.asked != nil {
		t.Error(state, p.asked)
	}
	s.Feed([]byte("d\n"))
	if x, state := s.Next(); state != api.Got || x != null {
		t.Error(x, state)
	}
	_, state := s.Next()
	if e, at := s.End(); state != api.Failed || e != api.ErrDepth || at != 0 {
		t.Error(state, e, at)
	}
}

// TestTell holds events of lines and of the end, and those that are refused.
func TestTell(t *testing.T) {
	tell := func(kind int) func(l *lines.Line) {
		return func(l *lines.Line) {
			l.At = min(1, len(l.Text))
			l.Tell(api.Event{Kind: kind})
		}
	}
	refuse := func(x api.Event) api.Errno { return api.ErrAnchorSpace }
	refuseEnd := func(x api.Event) api.Errno {
		if x.Kind == api.EndList {
			return api.ErrExpand
		}
		return api.OK
	}
	list := []api.Event{{Kind: api.List}}
	for _, l := range []struct {
		text       string
		parse, end func(l *lines.Line)
		others     []func(api.Event) api.Errno
		told       []api.Event
		e          api.Errno
		at         int
	}{
		{"ab\n", tell(api.List), tell(api.EndList), nil, []api.Event{{Kind: api.List}, {Kind: api.EndList}}, api.OK, 3},
		{"ab\ncd\n", tell(api.List), tell(api.EndMap), nil, append(list, list...), api.ErrEvents, 6},
		{"ab\ncd\n", tell(api.Null), nil, nil, []api.Event{null}, api.ErrEvents, 4},
		{"ab\ncd", tell(api.Null), nil, nil, []api.Event{null}, api.ErrEvents, 4},
		{"ab\ncd", tell(api.List), nil, []func(api.Event) api.Errno{refuse}, nil, api.ErrAnchorSpace, 1},
		{"ab\n", nil, tell(api.Null), []func(api.Event) api.Errno{refuse}, nil, api.ErrAnchorSpace, 3},
		{"ab", tell(api.List), tell(api.EndList), []func(api.Event) api.Errno{refuseEnd, refuse}, nil, api.ErrAnchorSpace, 1},
		{"ab", tell(api.List), tell(api.EndList), []func(api.Event) api.Errno{refuseEnd, refuseEnd}, list, api.ErrExpand, 2},
		{"ab", tell(api.List), tell(api.EndMap), []func(api.Event) api.Errno{refuseEnd}, list, api.ErrEvents, 2},
	} {
		if got, e, at := decode(&parser{parse: l.parse, end: l.end}, l.text, l.others...); !slices.Equal(got, l.told) || e != l.e || at != l.at {
			t.Errorf("%q: %v %v %d", l.text, got, e, at)
		}
	}
}

// TestLast holds that an event is told at a byte, which is read then.
func TestLast(t *testing.T) {
	read := ""
	got, e, at := decode(&parser{parse: func(l *lines.Line) {
		l.Last(api.Event{Kind: api.List})
		l.Last(api.Event{Kind: api.EndList})
		read = l.Text[l.At:]
		l.Last(null) // behind a document
	}}, "abcd")
	if checks.Written(got) != "[ ]" || read != "cd" || e != api.ErrEvents || at != 2 {
		t.Error(got, read, e, at)
	}
}

// TestPanic holds that a fault of a parser is not taken for an error.
func TestPanic(t *testing.T) {
	defer func() {
		if got := recover(); got != "x" {
			t.Error(got)
		}
	}()
	decode(&parser{parse: func(*lines.Line) { panic("x") }}, "a")
}
