package checks_test

import (
	"bytes"
	"slices"
	"testing"

	"hexapla/api"
	"hexapla/brace"
	"hexapla/checks"
	"hexapla/texts"
)

// right is a syntax without faults.
var right = checks.Syntax{New: func() checks.Decoder { return brace.New() }, Decode: brace.Decode}

// decoder is one with a fault: the functions that are not nil.
type decoder struct {
	*brace.Decoder
	feed  func(d *decoder, b []byte) bool
	close func(d *decoder)
	next  func(d *decoder) (api.Event, api.State)
	end   func(d *decoder) (api.Errno, int)
	kept  []byte
	n     int
}

func (d *decoder) Feed(b []byte) bool {
	if d.feed != nil {
		return d.feed(d, b)
	}
	return d.Decoder.Feed(b)
}

func (d *decoder) Close() {
	if d.close != nil {
		d.close(d)
		return
	}
	d.Decoder.Close()
}

func (d *decoder) Next() (api.Event, api.State) {
	if d.next != nil {
		return d.next(d)
	}
	return d.Decoder.Next()
}

func (d *decoder) End() (api.Errno, int) {
	if d.end != nil {
		return d.end(d)
	}
	return d.Decoder.End()
}

// with returns a syntax with a faulty decoder.
func with(fault decoder) checks.Syntax {
	return checks.Syntax{Decode: brace.Decode, New: func() checks.Decoder {
		d := fault
		d.Decoder = brace.New()
		return &d
	}}
}

// losing returns a syntax whose decoder takes n bytes of a piece, and no more.
func losing(n int) checks.Syntax {
	return with(decoder{feed: func(d *decoder, b []byte) bool { return d.Decoder.Feed(b[:min(len(b), n)]) }})
}

// decoding returns a syntax with a faulty Decode.
func decoding(decode func(text []byte) ([]api.Event, api.Errno, int)) checks.Syntax {
	return checks.Syntax{New: right.New, Decode: decode}
}

func expect(t *testing.T, name string, faulty bool, check func(t checks.T)) {
	t.Helper()
	checks.Expect(t, name, faulty, check)
}

// pieces holds a text with events, and one with an error.
func pieces(s checks.Syntax) func(t checks.T) {
	return func(t checks.T) {
		s.CheckOK(t, `[1,"a",{}]`, `[ 1 "a" { } ]`)
		s.CheckLast(t, "[1,]", "[ 1", api.ErrSyntax)
		s.CheckOpen(t, "[1,", "[ 1")
		s.Divisions(t, `[1,"a"]`)
		s.Long(t, `["a",1]`, `[ "a" 1 ]`)
	}
}

// all holds all that there is.
func all(s checks.Syntax) func(t checks.T) {
	return func(t checks.T) {
		pieces(s)(t)
		s.ReportedAt(t, "[1, 2]", "[@0 1@2 2@5 ]@5")
		s.NotEarly(t, "[1, 2}")
		s.Eventually(t, "[1, ", " ", "[ 1")
		s.OnlyClose(t, "[1", "[", "1", api.ErrSyntax, 2)
		s.Samples(t, "[1,2]", "[3}", "4")
		s.Independent(t, "[1,2]", "[3}", "4")
		s.Kept(t, `["a","b"]`, "[1,2,3]")
		s.FedBehind(t, "[1,]", "", "]", "\xff")
		s.NoNumbers(t, texts.Pair{Text: "[", Want: "["}, " ", "x")
		s.NoStrings(t, texts.Pair{Text: "[", Want: "["})
		s.Following(t, texts.Pair{Text: `{"a"`, Want: `{ "a":`}, ": \t\n\r")
	}
}

func TestRight(t *testing.T) {
	expect(t, "a right decoder", false, all(right))
	expect(t, "one without faults", false, all(with(decoder{})))
	expect(t, "one text", false, func(t checks.T) { right.Each(t, "", right.Read(t, "")) })
}

// TestWanted asks for what a right decoder does not answer.
func TestWanted(t *testing.T) {
	for name, check := range map[string]func(t checks.T){
		"events":         func(t checks.T) { right.CheckOK(t, "[1]", "[ 2 ]") },
		"more events":    func(t checks.T) { right.Check(t, "[1,", "[ 1 ]", api.ErrSyntax, 3) },
		"error":          func(t checks.T) { right.Check(t, "[1,", "[ 1", api.ErrToken, 3) },
		"no error":       func(t checks.T) { right.CheckOK(t, "[1,", "[ 1") },
		"an error":       func(t checks.T) { right.CheckOpen(t, "[1]", "[ 1 ]") },
		"place":          func(t checks.T) { right.Check(t, "[1,", "[ 1", api.ErrSyntax, 2) },
		"last place":     func(t checks.T) { right.CheckLast(t, "[1,", "[ 1", api.ErrSyntax) },
		"whatever":       func(t checks.T) { right.CheckLast(t, "[1", "[", api.ErrSyntax) },
		"reported":       func(t checks.T) { right.ReportedAt(t, "[1, 2]", "[@0 1@1 2@5 ]@5") },
		"unreported":     func(t checks.T) { right.ReportedAt(t, "[1, 2]", "[@0 1@2 2@5") },
		"eventually":     func(t checks.T) { right.Eventually(t, "[1,", " ", "[ 2") },
		"never":          func(t checks.T) { right.Eventually(t, "1]", " ", "1") },
		"early":          func(t checks.T) { right.OnlyClose(t, "[1 ", "[", "1", api.ErrSyntax, 3) },
		"late":           func(t checks.T) { right.OnlyClose(t, "[1", "[", "2", api.ErrSyntax, 2) },
		"close":          func(t checks.T) { right.OnlyClose(t, "[1", "[", "1", api.ErrSyntax, 1) },
		"long":           func(t checks.T) { right.Long(t, "[1]", "[ 2 ]") },
		"in pieces":      func(t checks.T) { right.Pieces(t, []string{"[1", "2]"}, true, right.Read(t, "[1]")) },
		"no error ahead": func(t checks.T) { right.FedBehind(t, "[1", "]") },
		"numbers":        func(t checks.T) { right.NoNumbers(t, texts.Pair{Text: "[", Want: "["}, "1") },
		"no numbers":     func(t checks.T) { right.NoNumbers(t, texts.Pair{Text: "[", Want: ""}) },
		"no strings":     func(t checks.T) { right.NoStrings(t, texts.Pair{Text: "[", Want: ""}) },
		"following":      func(t checks.T) { right.Following(t, texts.Pair{Text: `{"a"`, Want: `{ "a":`}, ": \t\n") },
		"not following":  func(t checks.T) { right.Following(t, texts.Pair{Text: `{"a"`, Want: `{ "a":`}, ": \t\n\r,") },
		"not beginning":  func(t checks.T) { right.Following(t, texts.Pair{Text: `{"a"`, Want: `{ "a":`}, ": \t\n\r\xc3") },
		"in a string":    func(t checks.T) { right.Following(t, texts.Pair{Text: `"\`}, `"\/ntrbfu`) }, // which is another error
		"behind":         func(t checks.T) { right.Pieces(t, []string{"[1"}, false, right.Read(t, "[1]")) },
	} {
		expect(t, name, true, check)
	}
}

// faulty holds that decoders with a fault each are found.
func faulty(t *testing.T, faults map[string]decoder) {
	t.Helper()
	for name, fault := range faults {
		expect(t, name, true, pieces(with(fault)))
	}
}

func TestFaultyFeed(t *testing.T) {
	faulty(t, map[string]decoder{
		"changes what it is fed": {feed: func(d *decoder, b []byte) bool {
			got := d.Decoder.Feed(b)
			clear(b)
			return got
		}},
		"changes what is behind": {feed: func(d *decoder, b []byte) bool {
			b = append(b, 'x')
			return d.Decoder.Feed(b[:len(b)-1])
		}},
		"keeps what it is fed": {
			feed: func(d *decoder, b []byte) bool {
				before := d.kept
				d.kept = b
				return d.Decoder.Feed(before)
			},
			close: func(d *decoder) { d.Decoder.Feed(d.kept); d.Decoder.Close() },
		},
		"is fed behind Close":   {feed: func(d *decoder, b []byte) bool { d.Decoder.Feed(b); return true }},
		"is fed no empty piece": {feed: func(d *decoder, b []byte) bool { return d.Decoder.Feed(b) && len(b) > 0 }},
		"is not fed behind error": {feed: func(d *decoder, b []byte) bool { return d.Decoder.Feed(b) && string(b) != "}" && d.n == 0 }, end: func(d *decoder) (api.Errno, int) {
			e, at := d.Decoder.End()
			d.n += int(e)
			return e, at
		}},
	})
}

func TestFaultyNext(t *testing.T) {
	faulty(t, map[string]decoder{
		"has an event beside More": {next: func(d *decoder) (api.Event, api.State) {
			x, state := d.Decoder.Next()
			if state == api.More {
				x.Text = "x"
			}
			return x, state
		}},
		"is done instead of More": {next: func(d *decoder) (api.Event, api.State) {
			x, state := d.Decoder.Next()
			if state == api.More {
				state = api.Done
			}
			return x, state
		}},
		"is never done": {next: func(d *decoder) (api.Event, api.State) {
			x, state := d.Decoder.Next()
			if state == api.Done {
				state = api.More
			}
			return x, state
		}},
		"is done but once": {next: func(d *decoder) (api.Event, api.State) {
			x, state := d.Decoder.Next()
			if state == api.Done {
				d.n++
				state = []api.State{api.More, api.Done}[d.n&1]
			}
			return x, state
		}},
		"fails late": {next: func(d *decoder) (api.Event, api.State) {
			x, state := d.Decoder.Next()
			if state == api.Failed && d.n == 0 {
				state = api.More
			}
			return x, state
		}, close: func(d *decoder) { d.n++; d.Decoder.Close() }},
		"lacks an event": {next: func(d *decoder) (api.Event, api.State) {
			x, state := d.Decoder.Next()
			if state == api.Got && x.Kind == api.Number {
				return d.Decoder.Next()
			}
			return x, state
		}},
	})
}

func TestFaultyEnd(t *testing.T) {
	faulty(t, map[string]decoder{
		"tells a wrong place":   {end: func(d *decoder) (api.Errno, int) { e, at := d.Decoder.End(); return e, at + int(e) }},
		"tells a wrong error":   {end: func(d *decoder) (api.Errno, int) { _, at := d.Decoder.End(); return api.OK, at }},
		"tells the end at once": {end: func(d *decoder) (api.Errno, int) { e, at := d.Decoder.End(); return e, max(at, 0) }},
		"tells the end once": {end: func(d *decoder) (api.Errno, int) {
			e, at := d.Decoder.End()
			if d.n += at + 1; d.n > at+1 && at >= 0 {
				return e, 0
			}
			return e, at
		}},
	})
}

// TestFaultyDecode asks a Decode with a fault each.
func TestFaultyDecode(t *testing.T) {
	same := []api.Event{}
	for name, decode := range map[string]func(text []byte) ([]api.Event, api.Errno, int){
		"changes its text":     func(text []byte) ([]api.Event, api.Errno, int) { defer clear(text); return brace.Decode(text) },
		"changes what follows": func(text []byte) ([]api.Event, api.Errno, int) { return brace.Decode(append(text, ' ')[:len(text)]) },
		"ends early":           func(text []byte) ([]api.Event, api.Errno, int) { l, e, at := brace.Decode(text); return l, e, at - 1 },
		"ends late":            func(text []byte) ([]api.Event, api.Errno, int) { l, e, at := brace.Decode(text); return l, e, at + 1 },
		"ends ahead":           func(text []byte) ([]api.Event, api.Errno, int) { l, e, at := brace.Decode(text); return l, e, at - 100 },
		"has no document": func(text []byte) ([]api.Event, api.Errno, int) {
			return []api.Event{{Kind: api.List}}, api.OK, len(text)
		},
		"has no events": func(text []byte) ([]api.Event, api.Errno, int) {
			return []api.Event{{Kind: api.Key}}, api.ErrSyntax, len(text)
		},
		"is kept": func(text []byte) ([]api.Event, api.Errno, int) {
			l, e, at := brace.Decode(text)
			same = append(same[:0], l...)
			return same, e, at
		},
	} {
		expect(t, name, true, all(decoding(decode)))
	}
	expect(t, "no document", true, func(t checks.T) {
		decoding(func(text []byte) ([]api.Event, api.Errno, int) {
			return []api.Event{{Kind: api.List}}, api.OK, len(text)
		}).Read(t, "[]")
	})
	expect(t, "no events", true, func(t checks.T) {
		decoding(func(text []byte) ([]api.Event, api.Errno, int) { return []api.Event{{Kind: api.Key}}, api.ErrSyntax, 0 }).Read(t, "[]")
	})
	expect(t, "kept", true, func(t checks.T) {
		decoding(func(text []byte) ([]api.Event, api.Errno, int) {
			l, e, at := brace.Decode(text)
			same = append(same[:0], l...)
			return same, e, at
		}).Kept(t, `["a"]`, "[1]")
	})
}

// TestFaultyOrder asks decoders that tell events too early or too late.
func TestFaultyOrder(t *testing.T) {
	late := with(decoder{next: func(d *decoder) (api.Event, api.State) {
		if d.n == 0 {
			return api.Event{}, api.More
		}
		return d.Decoder.Next()
	}, close: func(d *decoder) { d.n++; d.Decoder.Close() }})
	expect(t, "late", true, func(t checks.T) { late.Eventually(t, "[1, ", " ", "[ 1") })
	expect(t, "late, with an error", true, func(t checks.T) { late.NotEarly(t, "[1, 2}") })
	early := with(decoder{feed: func(d *decoder, b []byte) bool {
		return d.Decoder.Feed(append(slices.Clone(b), bytes.Repeat([]byte(" "), len(b))...))
	}})
	expect(t, "early", true, func(t checks.T) { early.NotEarly(t, "[1, 2}") })
	expect(t, "early, ahead of Close", true, func(t checks.T) { early.OnlyClose(t, "[1", "[", "1", api.ErrSyntax, 2) })
	for name, s := range map[string]checks.Syntax{"early": early, "late": late, "losing": losing(1)} {
		expect(t, name, true, func(t checks.T) { s.Samples(t, "1", "[1, 2}") })
	}
	expect(t, "losing far behind", true, func(t checks.T) { losing(12).Samples(t, "[1,2,3,4,5,6]") })
	one := brace.New()
	shared := checks.Syntax{New: func() checks.Decoder { return one }, Decode: brace.Decode}
	expect(t, "shared", true, func(t checks.T) { shared.Independent(t, "[1,2]", "[3}", "4") })
}
