package angle_test

import (
	"slices"
	"strings"
	"testing"

	"hexapla/api"
	"hexapla/checks"
	"hexapla/names"
	"hexapla/texts"
)

// reader is a model of the syntax, in which elements read one another.
type reader struct {
	*checks.Reader
	entities [][2]string // those that are defined
	told     int         // references to them
}

// written is an attribute as it is written, or what a prefix is bound to.
type written struct{ prefix, local, val string }

// model reads a whole text.
func model(r *checks.Reader) {
	m := &reader{Reader: r}
	m.blanks()
	for strings.HasPrefix(m.Text[m.At:], "<!") {
		m.definition()
		m.blanks()
	}
	m.Expect('<')
	m.element(nil)
	m.blanks()
}

// blanks goes over blanks, and returns how many there are.
func (m *reader) blanks() int {
	first := m.At
	for m.At < len(m.Text) && strings.IndexByte(blank, m.Next()) >= 0 {
		m.At++
	}
	return m.At - first
}

// local reads a local name, or fails with an error at its byte 17.
func (m *reader) local(e api.Errno) string {
	first := m.At
	for m.At < len(m.Text) && names.Local("a"[:min(m.At-first, 1)]+m.Text[m.At:m.At+1]) {
		if m.At-first == 16 {
			m.Fail(e)
		}
		m.At++
	}
	if m.At == first {
		m.Fail(api.ErrSyntax)
	}
	return m.Text[first:m.At]
}

// name reads a name.
func (m *reader) name() (string, string) {
	first := m.local(api.ErrToken)
	if m.Next() != ':' {
		return "", first
	}
	m.At++
	return first, m.local(api.ErrToken)
}

// raw reads raw text up to the byte end, and returns its expansion.
func (m *reader) raw(end byte) string {
	out := ""
	for m.Next() != end {
		more := m.Text[m.At:min(m.At+1, len(m.Text))]
		if more == "" || strings.Contains(never, more) {
			m.Fail(api.ErrSyntax)
		}
		if more == "&" {
			more = m.reference()
		}
		if out += more; len(out) > 48 {
			m.Fail(api.ErrToken)
		}
		m.At++
	}
	return out
}

// reference reads a reference, but for its ;, and returns its text.
func (m *reader) reference() string {
	m.At++
	name := m.local(api.ErrSyntax)
	if m.Next() != ';' {
		m.Fail(api.ErrSyntax)
	}
	for i, known := range predefined {
		if name == known {
			return `<>&"`[i : i+1]
		}
	}
	for _, known := range m.entities {
		if name == known[0] {
			if m.told++; m.told > 40 {
				m.Fail(api.ErrExpand)
			}
			return known[1]
		}
	}
	m.Fail(api.ErrEntity)
	return ""
}

// predefined are names that are always known.
var predefined = []string{"lt", "gt", "amp", "quot"}

func (m *reader) definition() {
	for i := range "<!ENTITY " {
		m.Expect("<!ENTITY "[i])
	}
	name := m.local(api.ErrToken)
	m.Expect(' ')
	m.Expect('"')
	text := m.raw('"')
	m.At++
	m.blanks()
	m.Expect('>')
	m.At-- // where it is defined
	size := len(name + text)
	for _, known := range m.entities {
		if name == known[0] {
			m.Fail(api.ErrTwice)
		}
		size += len(known[0] + known[1])
	}
	if slices.Contains(predefined, name) {
		m.Fail(api.ErrTwice)
	}
	if size > 200 {
		m.Fail(api.ErrEntitySpace)
	}
	m.entities = append(m.entities, [2]string{name, text})
	m.At++
}

// attrs reads attributes, up to what ends them.
func (m *reader) attrs() []written {
	var list []written
	for {
		space := m.blanks()
		if m.Next() == '/' || m.Next() == '>' {
			return list
		}
		if space == 0 {
			m.Fail(api.ErrSyntax)
		}
		prefix, local := m.name()
		if m.Next() == '=' && len(list) == 20 {
			m.Fail(api.ErrFields)
		}
		m.Expect('=')
		m.Expect('"')
		list = append(list, written{prefix, local, m.raw('"')})
		m.At++
	}
}

// bind returns the bindings of an element, behind those around it, and its other
// attributes.
func (m *reader) bind(around, list []written) ([]written, []written) {
	var here, others []written
	for _, a := range list {
		prefix := ""
		switch {
		case a.prefix == "xmlns":
			prefix = a.local
		case a.prefix != "" || a.local != "xmlns":
			others = append(others, a)
			continue
		}
		if !names.Space(a.val) && (a.val != "" || prefix != "") {
			m.Fail(api.ErrName)
		}
		if slices.ContainsFunc(here, func(b written) bool { return b.prefix == prefix }) {
			m.Fail(api.ErrTwice)
		}
		if len(here) == 10 {
			m.Fail(api.ErrFields)
		}
		here = append(here, written{prefix: prefix, val: a.val})
	}
	return slices.Concat(around, here), others
}

// full returns the full name of what has a prefix and a local name.
func (m *reader) full(bound []written, prefix, local string) string {
	space := ""
	for _, b := range bound { // the last one counts
		if b.prefix == prefix {
			space = b.val
		}
	}
	if space == "" && prefix != "" { // as no other prefix is bound to none
		m.Fail(api.ErrName)
	}
	if space == "" {
		return local
	}
	full := "{" + space + "}" + local
	if len(full) > 48 {
		m.Fail(api.ErrName)
	}
	return full
}

// element reads an element behind its <.
func (m *reader) element(around []written) {
	prefix, local := m.name()
	bound, list := m.bind(around, m.attrs())
	full := m.full(bound, prefix, local)
	m.Open()
	m.Tell(api.Event{Kind: api.Elem, Text: full})
	for _, a := range list {
		full := a.local
		if a.prefix != "" {
			full = m.full(bound, a.prefix, a.local)
		}
		m.Key(full)
		m.Tell(api.Event{Kind: api.Attr, Text: full, Val: a.val})
	}
	m.At++
	if m.Text[m.At-1] == '>' {
		m.contents(bound)
		if p, l := m.name(); m.blanks() >= 0 && m.Next() == '>' && (p != prefix || l != local) {
			m.Fail(api.ErrName)
		}
	}
	if m.Next() != '>' {
		m.Fail(api.ErrSyntax)
	}
	m.Last(api.Event{Kind: api.EndElem})
	m.Shut()
}

// contents reads the contents of an element, up to the name in its end tag.
func (m *reader) contents(bound []written) {
	for {
		if text := m.raw('<'); text != "" {
			m.Tell(api.Event{Kind: api.Text, Text: text})
		}
		m.At++
		if m.Next() == '/' {
			m.At++
			return
		}
		m.element(bound)
	}
}

// TestAllTexts holds all short texts of some bytes against the model.
func TestAllTexts(t *testing.T) {
	for alphabet, length := range map[string]int{
		"<>/a \"=": 7, "<a/>&;:": 6, "<!E \n>": 6, "<a>\xc3\xa9\xff": 6, "<a>\xe2\x82\xac/": 6,
	} {
		for text := range texts.Short(alphabet, length) {
			syntax.Against(t, text, model)
		}
	}
}

// TestAllBehind does so behind what stands in each place.
func TestAllBehind(t *testing.T) {
	for _, l := range follows {
		for text := range texts.Short("<>/a:=\"&; ", 4) {
			syntax.Against(t, l.text+text, model)
		}
	}
}

// TestAllTokens holds all short rows of tokens against the model.
func TestAllTokens(t *testing.T) {
	for length, tokens := range map[int][]string{
		7: {"<a>", "</a>", "<b/>", "x", "&lt;", " "},
		6: {"<a", " xmlns=\"u\"", " xmlns:p=\"u\"", " k=\"v\"", " p:k=\"\"", "/>", ">", "</a>"},
		5: {"<!ENTITY e ", "<!ENTITY lt ", "\"x\"", "\"&e;\"", "\"\"", ">", " ", "<a>", "&e;", "</a>", "<e/>"},
	} {
		for text := range texts.Rows(length, tokens...) {
			syntax.Against(t, text, model)
		}
	}
}

// TestAllTags holds all short rows of attributes in tags, of which one is in the
// other, against the model.
func TestAllTags(t *testing.T) {
	list := []string{" xmlns=\"u\"", " xmlns=\"\"", " xmlns:p=\"v\"", " xmlns:p=\"\"", " k=\"1\"", " p:k=\"2\"", " q:k=\"3\""}
	for outer := range texts.Rows(3, list...) {
		for _, name := range []string{"a", "p:a"} {
			for inner := range texts.Rows(2, list...) {
				syntax.Against(t, "<"+name+outer+"><p:b"+inner+"/><b/></"+name+">", model)
			}
		}
	}
}
