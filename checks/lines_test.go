package checks_test

import (
	"strings"
	"testing"

	"hexapla/api"
	"hexapla/checks"
	"hexapla/outline"
	"hexapla/texts"
)

// rightLines is a syntax of lines without faults.
var rightLines = checks.Syntax{New: func() checks.Decoder { return outline.New() }, Decode: outline.Decode, Lines: true}

// inLines holds texts of lines.
func inLines(s checks.Syntax) func(t checks.T) {
	return func(t checks.T) {
		s.CheckOK(t, "- 1\n- [2]", "[ 1 [ 2 ] ]")
		s.CheckLast(t, "- 1\n- x", "[ 1", api.ErrSyntax)
		s.CheckLast(t, "- 1\nx\xff", "[ 1", api.ErrUTF)
		s.CheckLast(t, "- 1\n"+strings.Repeat("x", 161), "[ 1", api.ErrToken)
		s.CheckLast(t, "- 1\n- "+strings.Repeat("1", 31), "[ 1", api.ErrToken)
		s.Check(t, "- 1\nx\n- 2\n", "[ 1", api.ErrSyntax, 4)
		s.Check(t, "- x\n- 2\xff", "[", api.ErrSyntax, 2)
		s.CheckOpen(t, "- 1\n- [2,", "[ 1 [ 2")
		s.Check(t, "- 1\n- [2,\n", "[ 1 [ 2", api.ErrSyntax, 9)
		s.CheckLines(t, "- 1\n- 2", "[ 1 2 ]")
		s.CheckOpenLine(t, "- 1\n- [2", "- 3", "[ 1 [ 2")
		s.NoLines(t, texts.Pair{Text: "- 1\n", Want: "[ 1"}, "", "- ", "x")
		s.Samples(t, "- 1\n- x\n- 2", "-\n- \xff", "1\n\n#\n2\n", strings.Repeat("#", 161)+"\n")
		s.FedBehind(t, "- x\n", "", "- 1\n", "\xff")
		s.NoNumbers(t, texts.Pair{Text: "- ", Want: "["}, " ", "x")
		s.NoStrings(t, texts.Pair{Text: "- ", Want: "["})
	}
}

// shifted is a decoder of lines whose Feed takes other bytes.
type shifted struct {
	*outline.Decoder
	feed  func(d *shifted, b []byte) bool
	close func(d *shifted)
	kept  []byte
}

func (d *shifted) Feed(b []byte) bool { return d.feed(d, b) }

func (d *shifted) Close() {
	if d.close != nil {
		d.close(d)
	}
	d.Decoder.Close()
}

func shiftedBy(feed func(d *shifted, b []byte) bool, close func(d *shifted)) checks.Syntax {
	return checks.Syntax{Decode: outline.Decode, Lines: true, New: func() checks.Decoder {
		return &shifted{Decoder: outline.New(), feed: feed, close: close}
	}}
}

func TestLines(t *testing.T) {
	expect(t, "right", false, inLines(rightLines))
	asBytes, asLines := rightLines, right
	asBytes.Lines, asLines.Lines = false, true
	expect(t, "lines as bytes", true, func(t checks.T) { asBytes.Check(t, "- x\n", "[", api.ErrSyntax, 2) })
	expect(t, "bytes as lines", true, func(t checks.T) { asLines.Check(t, "[] x\n", "[ ]", api.ErrSyntax, 3) })
	expect(t, "no last newline", true, func(t checks.T) { right.CheckLines(t, "[1]", "[ 2 ]") })
	expect(t, "no open line", true, func(t checks.T) { rightLines.CheckOpenLine(t, "-", "-", "[") })
	expect(t, "an open text", true, func(t checks.T) { right.CheckOpenLine(t, "[1,", "2", "[ 1") })
	wrongLines(t)
	// A decoder that is one byte behind fails late, one that ends each line itself fails early.
	late := shiftedBy(func(d *shifted, b []byte) bool {
		all := append(d.kept, b...)
		n := max(0, len(all)-1)
		d.kept = append([]byte(nil), all[n:]...)
		return d.Decoder.Feed(all[:n])
	}, func(d *shifted) { d.Decoder.Feed(d.kept) })
	early := shiftedBy(func(d *shifted, b []byte) bool { return d.Decoder.Feed(append(append([]byte(nil), b...), '\n')) }, nil)
	for name, l := range map[string]struct {
		text string
		e    api.Errno
		at   int
	}{"at the end of the line": {"x\n#", api.ErrSyntax, 1}, "of no character": {"\xff#", api.ErrUTF, 0}, "of a long line": {strings.Repeat("x", 161) + "x", api.ErrToken, 160}} {
		expect(t, name, true, func(t checks.T) { late.Check(t, l.text, "", l.e, l.at) })
	}
	expect(t, "early", true, func(t checks.T) { early.Pieces(t, []string{"x", ": 1"}, true, rightLines.Read(t, "x: 1")) })
}

// TestWantedLines asks for what a right decoder of lines does not answer.
func TestWantedLines(t *testing.T) {
	for name, check := range map[string]func(t checks.T){
		"an error that is not met": func(t checks.T) { rightLines.CheckLast(t, "- 1\n- x", "[ 1", api.ErrToken) },
		"one that is not the last": func(t checks.T) { rightLines.CheckLast(t, "- 1\n- xx", "[ 1", api.ErrSyntax) },
		"what is not told":         func(t checks.T) { rightLines.CheckLast(t, "- 1\n- x\xff", "[ 1 [", api.ErrUTF) },
		"numbers":                  func(t checks.T) { rightLines.NoNumbers(t, texts.Pair{Text: "- ", Want: "["}, "1") },
		"no numbers":               func(t checks.T) { rightLines.NoNumbers(t, texts.Pair{Text: "- ", Want: ""}) },
		"no strings":               func(t checks.T) { rightLines.NoStrings(t, texts.Pair{Text: "- ", Want: ""}) },
		"no strings in line two":   func(t checks.T) { rightLines.NoStrings(t, texts.Pair{Text: "- 1\n- ", Want: "[ 1"}) },
	} {
		expect(t, name, true, check)
	}
}

// words is a model of lines: each that is not empty has a number, and together
// they are a list.
func words(r *checks.Reader) {
	r.Open()
	r.Tell(api.Event{Kind: api.List})
	for r.NextLine() {
		if r.At < len(r.Text) {
			r.Number()
		}
		if r.At < len(r.Text) {
			r.Fail(api.ErrSyntax)
		}
	}
	r.Tell(api.Event{Kind: api.EndList})
}

func TestReadLines(t *testing.T) {
	ones := strings.Repeat("1", 160)
	for text, want := range map[string]string{
		"": "[ ], error 0 at 0", "\n": "[ ], error 0 at 1", "1": "[ 1 ], error 0 at 1", "1\n": "[ 1 ], error 0 at 2", "\n10\n\n-2": "[ 1e1 -2 ], error 0 at 7", "1\nx\n2": "[ 1, error 2 at 2", "1x\n": "[ 1, error 2 at 1", "1.\n2": "[, error 2 at 2",
		"1\n2\xff": "[ 1, error 3 at 3", "1\n\xff2": "[ 1, error 3 at 2", "x\xff": "[, error 3 at 1", "1\nx\xc3": "[ 1, error 3 at 4", "1\n\xe2\x82\n2": "[ 1, error 3 at 4", "1\xc3\xa9\n": "[ 1, error 2 at 1", "x\n\xff": "[, error 2 at 0",
		ones: "[, error 4 at 30", ones + "1": "[, error 4 at 160", "1\n" + ones + "1\n": "[ 1, error 4 at 162", ones + "\xff": "[, error 3 at 160", ones + "1\xff": "[, error 4 at 160", ones[1:] + "\xc3\xa9": "[, error 4 at 160", ones[1:] + "\xc3": "[, error 3 at 160", ones[1:] + "\xc3\n": "[, error 3 at 160", ones[1:] + "\xff": "[, error 3 at 159", ones + "\n1": "[, error 4 at 30",
	} {
		if got := checks.ReadLines(text, words).Written(); got != want {
			t.Errorf("%q: %s, not %s", text, got, want)
		}
	}
}

func TestAgainstLines(t *testing.T) {
	item := func(r *checks.Reader) {
		if !r.NextLine() {
			r.Fail(api.ErrSyntax)
		}
		r.Number()
		for r.NextLine() {
			if r.At < len(r.Text) {
				r.Fail(api.ErrSyntax)
			}
		}
	}
	for text, faulty := range map[string]bool{"1": false, "1\n": false, "1\n\n": false, "1\n2": false, "1\n\xff": false, "": false, "1\n#": true, "\n1": true, "null": true} {
		expect(t, text, faulty, func(t checks.T) { rightLines.Against(t, text, item) })
	}
	noLines := rightLines
	noLines.Lines = false
	expect(t, "no lines", true, func(t checks.T) { noLines.Against(t, "1", item) })
}

// wrongLines lets the results of some lines be other ones.
func wrongLines(t *testing.T) {
	t.Helper()
	first := texts.Pair{Text: "- 1\n", Want: "[ 1"}
	for name, wrong := range map[string]func(r *checks.Result){
		"token late":  func(r *checks.Result) { r.At += changed(r.Err == api.ErrToken) },
		"token early": func(r *checks.Result) { r.At -= changed(r.Err == api.ErrToken) },
		"no token":    func(r *checks.Result) { r.Err -= api.Errno(changed(r.Err == api.ErrToken)) },
		"utf late":    func(r *checks.Result) { r.At += changed(r.Err == api.ErrUTF) },
		"no utf":      func(r *checks.Result) { r.Err -= api.Errno(changed(r.Err == api.ErrUTF)) },
		"events":      func(r *checks.Result) { r.Events = r.Events[:len(r.Events)-changed(r.Err == api.ErrUTF)] },
	} {
		s := checks.Syntax{New: rightLines.New, Lines: true, Decode: func(text []byte) ([]api.Event, api.Errno, int) {
			l, e, at := outline.Decode(text)
			r := &checks.Result{Events: l, Err: e, At: at}
			wrong(r)
			return r.Events, r.Err, r.At
		}}
		expect(t, name, true, func(t checks.T) { s.NoLines(t, first, "- ") })
	}
	expect(t, "other events", true, func(t checks.T) { rightLines.NoLines(t, texts.Pair{Text: "- 1\n", Want: "["}, "- ") })
}

// changed returns 1 if something is to be changed.
func changed(is bool) int {
	if is {
		return 1
	}
	return 0
}
