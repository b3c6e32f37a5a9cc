package checks

import (
	"strconv"
	"strings"

	"hexapla/api"
)

// ReportedAt holds at which byte each event of a text is reported. They are told
// as rows of an event, as Written writes it, without " and blanks, an @, and the
// offset. What a text that ends with a byte of no character has no more is not
// reported ahead of this byte.
func (s Syntax) ReportedAt(t T, text, rows string) {
	t.Helper()
	for i := range len(text) {
		var want []string
		for row := range strings.FieldsSeq(rows) {
			cut := strings.LastIndex(row, "@")
			if at, _ := strconv.Atoi(row[cut+1:]); at <= i {
				want = append(want, row[:cut])
			}
		}
		r := s.Read(t, text[:i+1]+"\xff")
		got := tell(strings.ReplaceAll(Written(r.Events), `"`, ""), r.Err, r.At)
		if wanted := tell(strings.Join(want, " "), api.ErrUTF, i+1); got != wanted {
			t.Error("behind", strconv.Quote(text[:i+1])+":", got, "is not", wanted)
		}
	}
}

// NotEarly holds that a decoder that is fed a text byte by byte has no event
// ahead of the byte at which it is reported, and no error but the one there.
func (s Syntax) NotEarly(t T, text string) {
	t.Helper()
	f := &feeding{Decoder: s.New()}
	for i := range len(text) {
		f.feed(text[i:i+1], true)
		r := s.Read(t, text[:i+1]+"\xff")
		failed := r.Err != api.ErrUTF || r.At <= i
		if failed {
			f.expect(api.Failed)
		} else {
			f.expect(api.More)
		}
		if len(f.got) > len(r.Events) || failed && len(f.got) < len(r.Events) || Written(f.got) != Written(r.Events[:len(f.got)]) {
			f.note("behind", strconv.Itoa(i+1), "bytes, there is", Written(f.got), "for", r.Written())
			break
		}
	}
	f.report(t, text)
}

// Eventually holds that the events of a text come ahead of Close, whatever
// follows them: here blanks.
func (s Syntax) Eventually(t T, text, blanks, want string) {
	t.Helper()
	f := &feeding{Decoder: s.New()}
	f.feed(text, true)
	for range 1 << 10 {
		f.ahead()
		f.feed(strings.Repeat(blanks, 64), true)
	}
	f.ahead()
	if Written(f.got) != want {
		f.note("ahead of Close, there is", Written(f.got), "and not", want)
	}
	f.report(t, text)
}

// OnlyClose holds that a text has some events ahead of Close, and the others, up
// to the end, behind it only.
func (s Syntax) OnlyClose(t T, text, early, late string, e api.Errno, at int) {
	t.Helper()
	f := &feeding{Decoder: s.New()}
	f.feed(text, true)
	f.ahead()
	if Written(f.got) != early {
		f.note("ahead of Close, there is", Written(f.got))
	}
	f.got = nil
	f.Close()
	f.behind(Result{nil, e, at})
	if Written(f.got) != late {
		f.note("behind Close, there is", Written(f.got))
	}
	f.report(t, text)
}

// Samples holds texts in pieces of each length, of which none may be early, and
// what they begin with in all divisions.
func (s Syntax) Samples(t T, texts ...string) {
	t.Helper()
	for _, text := range texts {
		s.Each(t, text, s.Read(t, text))
		s.NotEarly(t, text)
		s.Divisions(t, text[:min(len(text), 12)])
	}
}

// Independent lets decoders of texts take turns.
func (s Syntax) Independent(t T, texts ...string) {
	t.Helper()
	var all []*feeding
	length := 0
	for _, text := range texts {
		all = append(all, &feeding{Decoder: s.New()})
		length = max(length, len(text))
	}
	for i := range length {
		for k, text := range texts {
			if i < len(text) {
				all[k].feed(text[i:i+1], true)
			}
			s.Decode([]byte(text[:min(i, len(text))])) // which leaves nothing behind
		}
	}
	for k, text := range texts {
		all[k].finish(s.Read(t, text))
		all[k].report(t, text)
	}
}

// Kept holds that what was answered for a text is not changed by what happens
// to the text, to another answer, or by the decoding of another text.
func (s Syntax) Kept(t T, text, other string) {
	t.Helper()
	b := []byte(text)
	l, _, _ := s.Decode(b)
	again, _, _ := s.Decode(b)
	before := Written(l)
	clear(b)
	clear(again[:cap(again)])
	s.Decode([]byte(other))
	if Written(l) != before {
		t.Error("what was", before, "is now", Written(l))
	}
}
