package stream_test

import (
	"slices"
	"strings"
	"testing"

	"hexapla/api"
	"hexapla/events"
	"hexapla/stream"
)

// marks is a machine whose bytes are events each, or errors; it writes down what
// it is asked.
type marks struct {
	asked string
	end   api.Errno // of the end, unless a value is told there
}

func (m *marks) Step(b byte, out *stream.Out) api.Errno {
	m.asked += string([]byte{b})
	switch b {
	case '[':
		return out.Tell(api.Event{Kind: api.List})
	case ']':
		return out.Tell(api.Event{Kind: api.EndList})
	case 'n':
		return out.Tell(api.Event{Kind: api.Null})
	case '2': // two at once
		if e := out.Tell(api.Event{Kind: api.Null}); e != api.OK {
			return e
		}
		return out.Tell(api.Event{Kind: api.Bool, Text: "true"})
	case '!': // an error behind an event
		if e := out.Tell(api.Event{Kind: api.Null}); e != api.OK {
			return e
		}
		return api.ErrToken
	case '?':
		return api.ErrSyntax
	}
	return api.OK
}

func (m *marks) End(out *stream.Out) api.Errno {
	m.asked += "$"
	if m.end != api.OK {
		return m.end
	}
	return out.Tell(api.Event{Kind: api.Null})
}

// kinds returns the kinds of events, a letter each.
func kinds(l []api.Event) string {
	var out strings.Builder
	for _, x := range l {
		out.WriteByte(map[int]byte{api.List: '[', api.EndList: ']', api.Null: 'n', api.Bool: 'b'}[x.Kind])
	}
	return out.String()
}

// take asks for all events that there are, and returns them and the state that
// ends them.
func take(t *testing.T, s *stream.Stream) (string, api.State) {
	t.Helper()
	var l []api.Event
	for {
		x, state := s.Next()
		if state != api.Got {
			if x != (api.Event{}) {
				t.Errorf("%v with %v", x, state)
			}
			return kinds(l), state
		}
		l = append(l, x)
	}
}

func checkTake(t *testing.T, s *stream.Stream, want string, wantState api.State) {
	t.Helper()
	if got, state := take(t, s); got != want || state != wantState {
		t.Errorf("%q %v, not %q %v", got, state, want, wantState)
	}
}

func checkEnd(t *testing.T, s *stream.Stream, want api.Errno, wantAt int) {
	t.Helper()
	for range 2 {
		if e, at := s.End(); e != want || at != wantAt {
			t.Errorf("%v %d, not %v %d", e, at, want, wantAt)
		}
	}
}

func checkFeed(t *testing.T, s *stream.Stream, text string, want bool) {
	t.Helper()
	if got := s.Feed([]byte(text)); got != want {
		t.Errorf("%q: %v", text, got)
	}
}

func TestDecode(t *testing.T) {
	for _, l := range []struct {
		text   string
		end    api.Errno // of the machine
		told   string
		e      api.Errno
		at     int
		wanted string // what the machine is asked
	}{
		{"", api.OK, "n", api.OK, 0, "$"},
		{"", api.ErrNumber, "", api.ErrNumber, 0, "$"},
		{"..", api.OK, "n", api.OK, 2, "..$"},
		{"n", api.OK, "n", api.ErrEvents, 1, "n$"}, // of a second value
		{"[n]", api.ErrNumber, "[n]", api.ErrNumber, 3, "[n]$"},
		{"[2.]", api.ErrNumber, "[nb]", api.ErrNumber, 4, "[2.]$"},
		{"[.?n", api.OK, "[", api.ErrSyntax, 2, "[.?"},
		{"[!n", api.OK, "[n", api.ErrToken, 1, "[!"},
		{"n2", api.OK, "n", api.ErrEvents, 1, "n2"},
		{"2n", api.OK, "n", api.ErrEvents, 0, "2"},
		{"[[[[[[[", api.OK, "[[[[[[", api.ErrDepth, 6, "[[[[[[["},
		{"\xc3\xa9n", api.OK, "n", api.ErrEvents, 3, "\xc3\xa9n$"},
		{"[\xffn", api.OK, "[", api.ErrUTF, 1, "["},
		{"[\xe2\x82n", api.OK, "[", api.ErrUTF, 3, "[\xe2\x82"},
		{"[\xe2\x82", api.OK, "[", api.ErrUTF, 3, "[\xe2\x82"},
		{"\xf0", api.ErrSyntax, "", api.ErrUTF, 1, "\xf0"},
		{"?\xff", api.OK, "", api.ErrSyntax, 0, "?"},
	} {
		m := &marks{end: l.end}
		got, e, at := stream.Decode(m, []byte(l.text))
		if kinds(got) != l.told || e != l.e || at != l.at || m.asked != l.wanted {
			t.Errorf("%q: %q %v %d, asked %q", l.text, kinds(got), e, at, m.asked)
		}
		for n := 1; n <= len(l.text)+1; n++ { // in pieces of n bytes
			m = &marks{end: l.end}
			s := stream.New(m)
			for piece := range slices.Chunk([]byte(l.text), n) {
				checkFeed(t, s, string(piece), true)
				checkFeed(t, s, "", true)
			}
			s.Close()
			state := api.Done
			if l.e != api.OK {
				state = api.Failed
			}
			checkTake(t, s, l.told, state)
			checkEnd(t, s, l.e, l.at)
			if m.asked != l.wanted {
				t.Errorf("%q, %d: asked %q", l.text, n, m.asked)
			}
		}
	}
}

// TestStates goes through all that Next and End may say.
func TestStates(t *testing.T) {
	s := stream.New(&marks{end: api.ErrNumber})
	checkTake(t, s, "", api.More)
	checkEnd(t, s, api.OK, -1)
	checkFeed(t, s, "[2", true)
	checkEnd(t, s, api.OK, -1)
	checkTake(t, s, "[nb", api.More)
	checkTake(t, s, "", api.More)
	checkFeed(t, s, "", true)
	checkTake(t, s, "", api.More)
	checkFeed(t, s, ".]", true)
	checkTake(t, s, "]", api.More)
	checkEnd(t, s, api.OK, -1)
	s.Close()
	checkEnd(t, s, api.OK, -1) // Next has not said so yet
	checkTake(t, s, "", api.Failed)
	checkEnd(t, s, api.ErrNumber, 4)
	checkTake(t, s, "", api.Failed)
	checkFeed(t, s, "n", false)
	s.Close()
	checkTake(t, s, "", api.Failed)
	checkEnd(t, s, api.ErrNumber, 4)

	s = stream.New(&marks{})
	checkFeed(t, s, "....", true)
	s.Close()
	checkFeed(t, s, "", false)
	checkFeed(t, s, "n?", false)
	checkEnd(t, s, api.OK, -1)
	checkTake(t, s, "n", api.Done)
	checkEnd(t, s, api.OK, 4)
	checkFeed(t, s, "n", false)
	s.Close()
	checkTake(t, s, "", api.Done)
	checkEnd(t, s, api.OK, 4)
}

// TestFailedAhead holds an error that is met ahead of Close.
func TestFailedAhead(t *testing.T) {
	s := stream.New(&marks{})
	checkFeed(t, s, "[2", true)
	checkFeed(t, s, "!]", true)
	checkEnd(t, s, api.OK, -1)
	checkTake(t, s, "[nbn", api.Failed)
	checkEnd(t, s, api.ErrToken, 2)
	checkFeed(t, s, "]?\xff", true) // not closed yet
	checkTake(t, s, "", api.Failed)
	checkEnd(t, s, api.ErrToken, 2)
	s.Close()
	checkFeed(t, s, "]", false)
	checkTake(t, s, "", api.Failed)
	checkEnd(t, s, api.ErrToken, 2)
}

func TestTell(t *testing.T) {
	l := []api.Event{{Kind: api.Map}, {Kind: api.Key, Text: "a"}, {Kind: api.Elem, Text: "e"}, {Kind: api.Attr, Text: "k", Val: "v"}, {Kind: api.EndElem}, {Kind: api.EndMap}}
	m := &teller{l: append(slices.Clone(l), api.Event{Kind: api.Null})}
	got, e, at := stream.Decode(m, []byte("x"))
	if !slices.Equal(got, l) || e != api.ErrEvents || at != 1 {
		t.Errorf("%v %v %d", got, e, at)
	}
	if n, e := events.Whole(got); n != len(l) || e != api.OK {
		t.Error(n, e)
	}
}

// teller tells all its events at the end.
type teller struct{ l []api.Event }

func (m *teller) Step(byte, *stream.Out) api.Errno { return api.OK }

func (m *teller) End(out *stream.Out) api.Errno {
	for _, x := range m.l {
		if e := out.Tell(x); e != api.OK {
			return e
		}
	}
	return api.OK
}

// TestOthers holds that an event is told if none of the others that are asked
// refuses it, and that they are asked behind the check.
func TestOthers(t *testing.T) {
	for _, l := range []struct {
		text   string
		others []api.Errno // what each of them answers
		told   string
		e      api.Errno
		at     int
		asked  int // how often they are
	}{
		{"n", nil, "n", api.OK, 1, 0},
		{"[n]", []api.Errno{api.OK, api.OK}, "[n]", api.OK, 3, 6},
		{".[n]", []api.Errno{api.OK, api.ErrAnchorSpace, api.OK}, "", api.ErrAnchorSpace, 1, 2},
		{"]", []api.Errno{api.ErrAnchorSpace}, "", api.ErrEvents, 0, 0},
		{"[!", []api.Errno{api.OK, api.OK}, "[", api.ErrToken, 1, 2},
	} {
		m := &asking{others: l.others}
		got, e, at := stream.Decode(m, []byte(l.text))
		if kinds(got) != l.told || e != l.e || at != l.at || m.asked != l.asked {
			t.Errorf("%q: %q %v %d, asked %d times", l.text, kinds(got), e, at, m.asked)
		}
	}
}

// asking is a machine that tells the events of marks to others, too.
type asking struct {
	others []api.Errno
	asked  int
}

func (m *asking) Step(b byte, out *stream.Out) api.Errno {
	var all []func(api.Event) api.Errno
	for _, e := range m.others {
		all = append(all, func(api.Event) api.Errno { m.asked++; return e })
	}
	switch b {
	case '[':
		return out.Tell(api.Event{Kind: api.List}, all...)
	case ']':
		return out.Tell(api.Event{Kind: api.EndList}, all...)
	case 'n':
		return out.Tell(api.Event{Kind: api.Null}, all...)
	case '!':
		return api.ErrToken
	}
	return api.OK
}

func (m *asking) End(*stream.Out) api.Errno { return api.OK }

// late is a machine that meets an error at the digit before a mark, or before the
// end, as many bytes ahead as the digit says.
type late struct{ digit int }

func (m *late) Step(b byte, out *stream.Out) api.Errno {
	if b != '!' {
		m.digit = int(b - '0')
		return api.OK
	}
	return m.End(out)
}

func (m *late) End(out *stream.Out) api.Errno {
	out.Back(m.digit)
	return api.ErrSyntax
}

// TestBack holds errors that are met ahead of where the text has been read to.
func TestBack(t *testing.T) {
	for _, l := range []struct {
		text string
		e    api.Errno
		at   int
	}{
		{"1", api.ErrSyntax, 0}, {"0", api.ErrSyntax, 1}, {"00003", api.ErrSyntax, 2}, {"01!", api.ErrSyntax, 1}, {"002!9", api.ErrSyntax, 1}, {"000!", api.ErrSyntax, 3}, {"12\xff", api.ErrUTF, 2}, {"12\xc3", api.ErrUTF, 3},
	} {
		if got, e, at := stream.Decode(&late{}, []byte(l.text)); len(got) != 0 || e != l.e || at != l.at {
			t.Errorf("%q: %v %v %d", l.text, got, e, at)
		}
		s := stream.New(&late{})
		checkFeed(t, s, l.text, true)
		s.Close()
		checkTake(t, s, "", api.Failed)
		checkEnd(t, s, l.e, l.at)
	}
	s := stream.New(&late{})
	checkFeed(t, s, "0002", true)
	checkTake(t, s, "", api.More)
	checkFeed(t, s, "!", true)
	checkTake(t, s, "", api.Failed)
	checkEnd(t, s, api.ErrSyntax, 2)
}
