package events_test

import (
	"math/rand"
	"regexp"
	"slices"
	"strings"
	"testing"

	"hexapla/api"
	"hexapla/events"
)

// The grammar of documents, but for the limits: a part that holds no other is
// written as one letter, v for a value and e for an element, until no part is
// left. Events are written n (a scalar), t (a text), z (an empty one), [ ] { }
// < >, k (a key) and a (an attribute).
var (
	listForm   = regexp.MustCompile(`\[[ntzve]*\]`)
	objectForm = regexp.MustCompile(`\{(?:k[ntzve])*\}`)
	elemForm   = regexp.MustCompile(`<a*(?:t?e)*t?>`)
	whole      = regexp.MustCompile(`\A[ntzve]\z`)
)

// letter returns how an event that is allowed is written.
func letter(x api.Event) string {
	switch x.Kind {
	case api.Text:
		if x.Text == "" {
			return "z"
		}
		return "t"
	case api.Null, api.Bool, api.Number:
		return "n"
	}
	return map[int]string{
		api.List: "[", api.EndList: "]", api.Map: "{", api.EndMap: "}", api.Elem: "<", api.EndElem: ">", api.Key: "k", api.Attr: "a",
	}[x.Kind]
}

// isDocument reports whether what is written is a document.
func isDocument(written string) bool {
	for {
		short := listForm.ReplaceAllString(written, "v")
		short = objectForm.ReplaceAllString(short, "v")
		short = elemForm.ReplaceAllString(short, "e")
		if short == written {
			return whole.MatchString(written)
		}
		written = short
	}
}

// ends returns what completes a document of which this much is written, if
// anything does: a value if one is missing, and the ends of what is open.
func ends(written string) string {
	out := ""
	if written == "" || strings.HasSuffix(written, "k") {
		out = "n"
	}
	var open []byte
	for i := range len(written) {
		switch b := written[i]; b {
		case '[', '{', '<':
			open = append(open, b+2) // the codes of <>, [] and {} are two apart
		case ']', '}', '>':
			open = open[:max(0, len(open)-1)]
		}
	}
	slices.Reverse(open)
	return out + string(open)
}

// model is a Check that keeps all events and asks the grammar each time.
type model struct {
	l       []api.Event
	written string
}

// fields returns the texts of the keys or attributes of the innermost part.
func (m *model) fields() []string {
	var open [][]string
	for _, x := range m.l {
		switch x.Kind {
		case api.List, api.Map, api.Elem:
			open = append(open, nil)
		case api.EndList, api.EndMap, api.EndElem:
			open = open[:len(open)-1]
		case api.Key, api.Attr:
			open[len(open)-1] = append(open[len(open)-1], x.Text)
		}
	}
	return open[len(open)-1]
}

func (m *model) depth() int {
	return strings.Count(m.written, "[") + strings.Count(m.written, "{") + strings.Count(m.written, "<") -
		strings.Count(m.written, "]") - strings.Count(m.written, "}") - strings.Count(m.written, ">")
}

// step does what Step must do with an event whose Text and Val are allowed.
func (m *model) step(x api.Event) api.Errno {
	written := m.written + letter(x)
	if !isDocument(written + ends(written)) {
		return api.ErrEvents
	}
	switch x.Kind {
	case api.List, api.Map, api.Elem:
		if m.depth() == 6 {
			return api.ErrDepth
		}
	case api.Key, api.Attr:
		there := m.fields()
		if slices.Contains(there, x.Text) {
			return api.ErrTwice
		}
		if len(there) == 10 {
			return api.ErrFields
		}
	}
	m.l, m.written = append(m.l, x), written
	return api.OK
}

// modelAfter returns a model that has gone through l.
func modelAfter(l []api.Event) *model {
	m := &model{}
	for _, x := range l {
		m.step(x)
	}
	return m
}

// alphabet are the events of which the tests below make all rows.
var alphabet = []api.Event{
	scalar, text, ev(api.Text, ""), list, endList, object, endMap, key("a"), key("b"), elem, endElem, ev(api.Attr, "a"), ev(api.Attr, "b"),
}

// checkBoth offers x to both, which did the same so far, and returns the error.
func checkBoth(t *testing.T, m *model, c *events.Check, x api.Event) api.Errno {
	t.Helper()
	want := m.step(x)
	if e := c.Step(x); e != want {
		t.Fatalf("%s: %v: %v, not %v", m.written, x, e, want)
	}
	if done := isDocument(m.written); c.Depth() != m.depth() || c.Done() != done {
		t.Fatalf("%s: depth %d, done %v, not %d, %v", m.written, c.Depth(), c.Done(), m.depth(), done)
	}
	return want
}

// checkAll offers each event behind l, and behind each row of at most n events
// more that is accepted.
func checkAll(t *testing.T, l []api.Event, n int) {
	m, c := modelAfter(l), after(t, l...)
	for _, x := range alphabet {
		if checkBoth(t, m, c, x) != api.OK {
			continue
		}
		if n > 0 {
			checkAll(t, append(slices.Clone(l), x), n-1)
		}
		m, c = modelAfter(l), after(t, l...)
	}
}

func TestAllRows(t *testing.T) { checkAll(t, nil, 4) }

// random returns an event of the alphabet, or of often, with any of 14 keys.
func random(r *rand.Rand, often []api.Event) api.Event {
	x := alphabet[r.Intn(len(alphabet))]
	if r.Intn(10) > 0 {
		x = often[r.Intn(len(often))]
	}
	if x.Kind == api.Key || x.Kind == api.Attr {
		x.Text = string(rune('a' + r.Intn(14)))
	}
	return x
}

// favours returns which events are to come often: all but the ends, or those
// with which maps, or elements, come to have many fields.
func favours(i int) []api.Event {
	switch i % 3 {
	case 0:
		return []api.Event{scalar, text, list, object, key("a"), elem, attr("a")}
	case 1:
		return []api.Event{scalar, key("a")}
	}
	return []api.Event{attr("a")}
}

// TestRandomRows goes on for long enough to meet the limits.
func TestRandomRows(t *testing.T) {
	r := rand.New(rand.NewSource(5))
	met := map[api.Errno]int{}
	for i := range 600 {
		m, c := &model{}, events.New()
		for range 120 {
			met[checkBoth(t, m, c, random(r, favours(i)))]++
		}
	}
	for _, e := range []api.Errno{api.OK, api.ErrEvents, api.ErrDepth, api.ErrTwice, api.ErrFields} {
		if met[e] < 100 {
			t.Errorf("%v is met %d times", e, met[e])
		}
	}
}

// closing returns events that complete a document of which these are accepted.
func closing(l []api.Event) []api.Event {
	var out []api.Event
	for _, b := range ends(modelAfter(l).written) {
		switch b {
		case 'n':
			out = append(out, ev(api.Null))
		case ']':
			out = append(out, endList)
		case '}':
			out = append(out, endMap)
		case '>':
			out = append(out, endElem)
		}
	}
	return out
}

// TestExtend holds that every row that is accepted, also at the limits, can be
// extended to a document, of which every beginning is accepted.
func TestExtend(t *testing.T) {
	r := rand.New(rand.NewSource(6))
	for i := range 600 {
		c := events.New()
		var l []api.Event
		for range r.Intn(200) {
			x := random(r, favours(i))
			if c.Step(x) == api.OK && !c.Done() {
				l = append(l, x)
			} else if c.Done() {
				c = after(t, l...)
			}
		}
		document := append(slices.Clone(l), closing(l)...)
		for n := range document {
			checkWhole(t, document[:n], n, api.ErrEvents)
		}
		checkWhole(t, document, len(document), api.OK)
		c = after(t, l...)
		for i, x := range closing(l) {
			checkStep(t, c, x, api.OK)
			checkAsked(t, c, c.Depth(), i == len(document)-len(l)-1)
		}
	}
}
