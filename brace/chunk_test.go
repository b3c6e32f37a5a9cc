package brace_test

import (
	"strings"
	"testing"

	"hexapla/api"
	"hexapla/brace"
)

// samples are texts with all kinds of ends.
var samples = []string{
	"", " ", "null", " true ", "12", "12 ", "[1,2]", `{"a":-1.5e3,"b":[]}`, `["\u00e9","é",false]`, `{"a":1,"a":2}`, "[1 ,2x", "[1e1000]", "1.", "tru", "nul1",
	"[[[[[[[", "[}", `"a`, `"\x"`, "12\xff", "\"\xe2\x82", "\"\xe2\x82\"", "[]]", "1\xc3\xa9", `{"k":{"k":null},"l":"m"}`,
}

// TestDivisions feeds short texts in all divisions, with Next asked between the
// pieces and only in the end.
func TestDivisions(t *testing.T) {
	for _, text := range samples {
		text = text[:min(len(text), 12)]
		l, e, at := decode(t, text)
		for cuts := range 1 << max(0, len(text)-1) {
			var pieces []string
			begin := 0
			for i := 1; i < len(text); i++ {
				if cuts>>(i-1)&1 == 1 {
					pieces = append(pieces, text[begin:i])
					begin = i
				}
			}
			pieces = append(pieces, text[begin:])
			checkPieces(t, pieces, true, l, e, at)
			checkPieces(t, pieces, false, l, e, at)
		}
	}
}

// TestSamples holds some of the ends above, and each sample in pieces.
func TestSamples(t *testing.T) {
	for _, text := range samples {
		l, e, at := decode(t, text)
		checkEach(t, text, l, e, at)
	}
	check(t, "[1 ,2x", "[ 1 2", api.ErrSyntax, 5)
	check(t, `{"a":1,"a":2}`, `{ "a": 1`, api.ErrTwice, 9)
}

// TestNotEarly holds that no event is there ahead of the byte at which it is
// reported: what a text that ends with a byte of no character has no more.
func TestNotEarly(t *testing.T) {
	for _, text := range samples {
		d := brace.New()
		var got []api.Event
		for i := range len(text) {
			feed(t, d, text[i:i+1], true)
			l, state := drain(t, d)
			got = append(got, l...)
			want, e, _ := decode(t, text[:i+1]+"\xff")
			if e != api.ErrUTF && state != api.Failed || state == api.Done {
				t.Errorf("%q: state %v", text[:i+1], state)
			}
			if len(got) > len(want) || written(got) != written(want[:len(got)]) || state == api.Failed && len(got) < len(want) {
				t.Errorf("%q: %s, not %s", text[:i+1], written(got), written(want))
			}
		}
	}
}

// TestReportedAt holds at which byte each event is reported, by the same means.
func TestReportedAt(t *testing.T) {
	text := `[ {"a" : 10 , "b": true},null,"c",[ ]] `
	words := strings.Fields("[@0 {@2 a:@5 1e1@11 b:@16 true@22 }@23 null@28 c@32 [@34 ]@36 ]@37")
	for i := range text {
		var want []string
		for _, word := range words {
			name, at, _ := strings.Cut(word, "@")
			if n := len(at); n == 1 && i >= int(at[0]-'0') || n == 2 && i >= int(at[0]-'0')*10+int(at[1]-'0') {
				want = append(want, name)
			}
		}
		l, e, at := decode(t, text[:i+1]+"\xff")
		if got := strings.ReplaceAll(written(l), `"`, ""); got != strings.Join(want, " ") || e != api.ErrUTF || at != i+1 {
			t.Errorf("%q: %s %v %d, not %s", text[:i+1], got, e, at, want)
		}
	}
}

// TestEventually holds that events come before Close, whatever follows them.
func TestEventually(t *testing.T) {
	for text, want := range map[string]string{
		"[1, ": "[ 1", "[1,\"a\" ": `[ 1 "a"`, " null ": "null", "12 ": "12", "[] ": "[ ]", `{"a" `: `{ "a":`, `{"a":false `: `{ "a": false`, "[[{ ": "[ [ {",
	} {
		d := brace.New()
		feed(t, d, text, true)
		var got []api.Event
		for range 1 << 10 {
			l, state := drain(t, d)
			if got = append(got, l...); state != api.More {
				t.Errorf("%q: state %v", text, state)
			}
			feed(t, d, strings.Repeat(" ", 64), true)
		}
		if checkAhead(t, d); written(got) != want {
			t.Errorf("%q: %s, not %s", text, written(got), want)
		}
	}
}

// TestStates goes through what a decoder says from its beginning to its end.
func TestStates(t *testing.T) {
	d := brace.New()
	for range 2 {
		if x, state := d.Next(); state != api.More || x != (api.Event{}) {
			t.Errorf("%v %v", x, state)
		}
		checkAhead(t, d)
		feed(t, d, "", true)
	}
	feed(t, d, "[1,", true)
	if l, state := drain(t, d); state != api.More {
		t.Errorf("%s %v", written(l), state)
	}
	checkAhead(t, d)
	d.Close()
	if l, state := drain(t, d); state != api.Failed {
		t.Errorf("%s %v", written(l), state)
	}
	checkBehind(t, d, api.ErrSyntax, 3)
	feed(t, d, "2]", false)
	checkBehind(t, d, api.ErrSyntax, 3)
}

// TestNothingFed closes decoders that were fed nothing.
func TestNothingFed(t *testing.T) {
	d := brace.New()
	d.Close()
	feed(t, d, "1", false)
	drain(t, d)
	checkBehind(t, d, api.ErrSyntax, 0)
}

// TestCloseEndsNumber holds that only Close shows that a number has ended.
func TestCloseEndsNumber(t *testing.T) {
	for _, l := range []struct {
		text, want string
		e          api.Errno
		at         int
	}{{"12", "12", api.OK, 2}, {"1e1000", "", api.ErrNumber, 6}, {"1.", "", api.ErrSyntax, 2}, {"[1", "[ 1", api.ErrSyntax, 2}} {
		d := brace.New()
		feed(t, d, l.text, true)
		ahead, state := drain(t, d)
		if state != api.More || strings.Contains(written(ahead), "1") {
			t.Errorf("%q: %s %v", l.text, written(ahead), state)
		}
		d.Close()
		behind, _ := drain(t, d)
		if got := written(append(ahead, behind...)); got != l.want {
			t.Errorf("%q: %s", l.text, got)
		}
		checkBehind(t, d, l.e, l.at)
	}
}

// TestFedBehindError holds that a decoder with an error takes what it is fed,
// until it is closed, and changes nothing.
func TestFedBehindError(t *testing.T) {
	for _, more := range []string{"", "1]", "\xff", "]", strings.Repeat("[", 9)} {
		d := brace.New()
		feed(t, d, "[1,]", true)
		feed(t, d, more, true)
		l, state := drain(t, d)
		if written(l) != "[ 1" || state != api.Failed {
			t.Errorf("%s %v", written(l), state)
		}
		checkBehind(t, d, api.ErrSyntax, 3)
		feed(t, d, more, true)
		checkBehind(t, d, api.ErrSyntax, 3)
		d.Close()
		feed(t, d, more, false)
		checkBehind(t, d, api.ErrSyntax, 3)
	}
}

// TestIndependent lets decoders take turns.
func TestIndependent(t *testing.T) {
	texts := []string{`{"a":[1,2]}`, `["a\u00e9b"]  `, "[12345678,  ", `{"a":1,"a":`, "tru         "}
	var decoders []*brace.Decoder
	for range texts {
		decoders = append(decoders, brace.New())
	}
	for i := range 11 {
		for k, text := range texts {
			feed(t, decoders[k], text[i:i+1], true)
			brace.Decode([]byte("[nul")) // which leaves nothing behind
		}
	}
	for k, text := range texts {
		want, e, at := decode(t, text[:11])
		decoders[k].Close()
		if l, _ := drain(t, decoders[k]); written(l) != written(want) {
			t.Errorf("%q: %s, not %s", text, written(l), written(want))
		}
		checkBehind(t, decoders[k], e, at)
	}
}

// TestAnswerIsKept holds that events do not change behind their answer.
func TestAnswerIsKept(t *testing.T) {
	text := []byte(`["abc",12,"def"]`)
	l, _, _ := brace.Decode(text)
	again, _, _ := brace.Decode(text)
	before := written(l)
	clear(text)
	for i := range again {
		again[i] = api.Event{}
	}
	brace.Decode([]byte(`["ghi",34,"jkl"]`))
	if written(l) != before || before != `[ "abc" 12 "def" ]` {
		t.Error(written(l), before)
	}
}

// TestLongText holds a text with many events, fed whole and in pieces.
func TestLongText(t *testing.T) {
	row := `{"id":10,"name":"a\tb","tags":["x","y",[]],"ok":true,"no":null}`
	want := ` { "id": 1e1 "name": "a\tb" "tags": [ "x" "y" [ ] ] "ok": true "no": null }`
	const rows = 3000
	text := "[" + strings.Repeat(row+",\n", rows-1) + row + "]"
	l, e, at := decode(t, text)
	if written(l) != "["+strings.Repeat(want, rows)+" ]" || e != api.OK || at != len(text) {
		t.Error(len(l), e, at)
	}
	for _, n := range []int{1, 7, 4096, len(text)} {
		d := brace.New()
		var got []api.Event
		for i := 0; i < len(text); i += n {
			feed(t, d, text[i:min(i+n, len(text))], true)
			if n > 1 {
				more, _ := drain(t, d)
				got = append(got, more...)
			}
		}
		d.Close()
		more, _ := drain(t, d)
		if got = append(got, more...); written(got) != written(l) {
			t.Errorf("pieces of %d: %d events", n, len(got))
		}
		checkBehind(t, d, e, at)
	}
	l, e, at = decode(t, text+"x")
	if len(l) != 2+rows*17 || e != api.ErrSyntax || at != len(text) {
		t.Error(len(l), e, at)
	}
}
