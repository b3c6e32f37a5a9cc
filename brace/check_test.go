package brace_test

import (
	"slices"
	"strconv"
	"strings"
	"testing"

	"hexapla/api"
	"hexapla/brace"
	"hexapla/events"
)

// written writes events, the same only for the same ones.
func written(l []api.Event) string {
	var words []string
	for _, x := range l {
		words = append(words, word(x))
	}
	return strings.Join(words, " ")
}

// word writes an event: an ordinary one briefly, any other with all its parts.
func word(x api.Event) string {
	switch x {
	case api.Event{Kind: api.Null}:
		return "null"
	case api.Event{Kind: api.Bool, Text: x.Text}, api.Event{Kind: api.Number, Text: x.Text}:
		if _, e := events.Whole([]api.Event{x}); e == api.OK {
			return x.Text
		}
	case api.Event{Kind: api.Text, Text: x.Text}:
		return strconv.Quote(x.Text)
	case api.Event{Kind: api.Key, Text: x.Text}:
		return strconv.Quote(x.Text) + ":"
	case api.Event{Kind: api.List}:
		return "["
	case api.Event{Kind: api.EndList}:
		return "]"
	case api.Event{Kind: api.Map}:
		return "{"
	case api.Event{Kind: api.EndMap}:
		return "}"
	}
	return "?" + strconv.Itoa(x.Kind) + strconv.Quote(x.Text) + strconv.Quote(x.Val)
}

// drain returns the events that there are, and the state that ends them.
func drain(t *testing.T, d *brace.Decoder) ([]api.Event, api.State) {
	var l []api.Event
	for {
		x, state := d.Next()
		if state != api.Got {
			if x != (api.Event{}) {
				t.Errorf("%v beside state %v", x, state)
			}
			return l, state
		}
		l = append(l, x)
	}
}

// feed feeds a piece whose memory is used again behind it.
func feed(t *testing.T, d *brace.Decoder, piece string, want bool) {
	b := []byte(piece + "spare")
	if got := d.Feed(b[:len(piece)]); got != want {
		t.Errorf("Feed %q: %v", piece, got)
	}
	if string(b) != piece+"spare" {
		t.Errorf("Feed changed %q into %q", piece, b)
	}
	for i := range b {
		b[i] = '#'
	}
}

// checkAhead holds what a decoder says that has not told its end yet.
func checkAhead(t *testing.T, d *brace.Decoder) {
	if e, at := d.End(); e != api.OK || at != -1 {
		t.Errorf("End: %v %d ahead of the end", e, at)
	}
}

// checkBehind holds what a decoder says that has told its end, again and again.
func checkBehind(t *testing.T, d *brace.Decoder, e api.Errno, at int) {
	want := api.Done
	if e != api.OK {
		want = api.Failed
	}
	for range 2 {
		if x, state := d.Next(); state != want || x != (api.Event{}) {
			t.Errorf("Next: %v %v behind the end", x, state)
		}
		for range 2 {
			if gotE, gotAt := d.End(); gotE != e || gotAt != at {
				t.Errorf("End: %v %d, not %v %d", gotE, gotAt, e, at)
			}
		}
	}
}

// checkPieces feeds a text in pieces, and asks for the events between them, or
// only in the end. It holds the events, the end, and that neither comes early.
func checkPieces(t *testing.T, pieces []string, between bool, want []api.Event, e api.Errno, at int) {
	d := brace.New()
	var got []api.Event
	fed := 0
	for _, piece := range pieces {
		if feed(t, d, piece, true); !between {
			continue
		}
		fed += len(piece)
		l, state := drain(t, d)
		if got = append(got, l...); e != api.OK && at < fed { // the byte with the error was fed
			if state != api.Failed {
				t.Errorf("%q: state %v behind the error", pieces, state)
			}
			checkBehind(t, d, e, at)
			continue
		}
		if state != api.More {
			t.Errorf("%q: state %v", pieces, state)
		}
		checkAhead(t, d)
	}
	d.Close()
	feed(t, d, "1", false)
	feed(t, d, "", false)
	l, _ := drain(t, d)
	got = append(got, l...)
	checkBehind(t, d, e, at)
	d.Close()
	feed(t, d, "\xff", false)
	checkBehind(t, d, e, at)
	if written(got) != written(want) {
		t.Errorf("%q, asked between %v: %s, not %s", pieces, between, written(got), written(want))
	}
}

// checkEach holds that a text has these events and this end, in pieces of each
// length up to that of the text (of a long text: of some), and with empty pieces
// among them.
func checkEach(t *testing.T, text string, want []api.Event, e api.Errno, at int) {
	t.Helper()
	for n := 1; n <= len(text)+1; n += 1 + n/64*n {
		var pieces, sparse []string
		for piece := range slices.Chunk([]byte(text), n) {
			pieces = append(pieces, string(piece))
			sparse = append(sparse, "", string(piece), "", "")
		}
		for _, between := range []bool{true, false} {
			checkPieces(t, pieces, between, want, e, at)
			checkPieces(t, sparse, between, want, e, at)
		}
	}
}

// checkDocument holds that events are a document if the end is OK, and can be
// extended to one otherwise.
func checkDocument(t *testing.T, text string, l []api.Event, e api.Errno) {
	t.Helper()
	c := events.New() // whatever it accepts can be extended
	for i, x := range l {
		if refused := c.Step(x); refused != api.OK {
			t.Errorf("%q: %s: %v at event %d", text, written(l), refused, i)
		}
	}
	if e == api.OK && !c.Done() {
		t.Errorf("%q: %s: no document", text, written(l))
	}
}

// decode decodes a text at once, and holds what is promised of all texts.
func decode(t *testing.T, text string) ([]api.Event, api.Errno, int) {
	t.Helper()
	b := []byte(text + "spare")
	l, e, at := brace.Decode(b[:len(text)])
	if string(b) != text+"spare" {
		t.Errorf("Decode changed %q into %q", text, b)
	}
	if at < 0 || at > len(text) || e == api.OK && at != len(text) {
		t.Errorf("%q: %v at %d", text, e, at)
	}
	checkDocument(t, text, l, e)
	return l, e, at
}

// check holds the events of a text, as written writes them, and its end, when it
// is decoded at once and in pieces.
func check(t *testing.T, text, want string, e api.Errno, at int) {
	t.Helper()
	l, gotE, gotAt := decode(t, text)
	if written(l) != want || gotE != e || gotAt != at {
		t.Errorf("%q: %s %v %d, not %s %v %d", text, written(l), gotE, gotAt, want, e, at)
		return
	}
	checkEach(t, text, l, e, at)
}

// checkOK holds the events of a text without errors.
func checkOK(t *testing.T, text, want string) {
	t.Helper()
	check(t, text, want, api.OK, len(text))
}

// checkLast holds the events of a text whose error is met at its last byte.
func checkLast(t *testing.T, text, want string, e api.Errno) {
	t.Helper()
	check(t, text, want, e, len(text)-1)
	check(t, text+"]", want, e, len(text)-1) // whatever follows
	check(t, text+"\xff", want, e, len(text)-1)
}

// checkOpen holds the events of a text that is incomplete.
func checkOpen(t *testing.T, text, want string) {
	t.Helper()
	check(t, text, want, api.ErrSyntax, len(text))
}
