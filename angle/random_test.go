package angle_test

import (
	"math/rand"
	"slices"
	"strconv"
	"strings"
	"testing"

	"hexapla/api"
)

// writer writes random texts.
type writer struct {
	*rand.Rand
	strings.Builder
	entities []string // the names of those that are defined
	spaces   []string // the prefixes that are bound
	refers   bool     // much of all raw text is references
}

// pick returns one of some texts.
func (w *writer) pick(list ...string) string { return list[w.Intn(len(list))] }

// rare reports whether something is to be done that is done once in some times.
func (w *writer) rare(times int) bool { return w.Intn(times) == 0 }

// blank writes blanks now and then, and at least one where it must.
func (w *writer) blank(must bool) {
	if must || w.rare(8) {
		w.WriteString(w.pick(" ", "\t", "\n", "\r", "  "))
	}
}

// local returns a local name, which now and then is long or too long.
func (w *writer) local() string {
	if w.rare(60) {
		return n[:15+w.Intn(3)]
	}
	return w.pick("a", "b", "c", "k1", "k-2", "x.y", "_")
}

// prefix returns a prefix and its colon, or nothing.
func (w *writer) prefix() string {
	if w.rare(40) {
		return w.pick("q:", "xmlns:", "P:")
	}
	if len(w.spaces) > 0 && w.rare(2) {
		return w.pick(w.spaces...) + ":"
	}
	return ""
}

// raw writes raw text of some parts.
func (w *writer) raw(parts int) {
	for range parts {
		kind := w.Intn(12)
		if w.refers {
			kind /= 2
		}
		switch kind {
		case 0, 1:
			w.WriteString(w.pick("&lt;", "&amp;", "&quot;", "&gt;"))
		case 2, 3, 4:
			if len(w.entities) > 0 {
				w.WriteString("&" + w.pick(w.entities...) + ";")
			}
		case 5:
			if w.rare(60) {
				w.WriteString(w.pick("&z;", "&", "\x01", "&a b;", "<", "\"", x[:48]))
			}
		default:
			w.WriteString(w.pick("x", "y", "é", "€", " ", "\n", "'", ">"))
		}
	}
}

// definitions writes some definitions, of texts that are short or all long.
func (w *writer) definitions() {
	long := w.rare(6)
	for i := range w.Intn(12) {
		name := "e" + strconv.Itoa(i)
		if w.rare(50) {
			name = w.pick("e0", "lt", n[:16], n[:17])
		}
		w.WriteString("<!ENTITY " + name + " \"")
		if long {
			w.WriteString(x[:20+w.Intn(20)])
		} else {
			w.raw(w.Intn(2))
		}
		w.WriteString("\"")
		w.blank(false)
		w.WriteString(">")
		w.blank(false)
		w.entities = append(w.entities, name)
	}
}

// count is how many attributes there are, now and then more than there may be.
func (w *writer) count() int {
	if w.rare(20) {
		return w.Intn(14)
	}
	return w.Intn(3)
}

// bindings returns bindings, and adds their prefixes to those that are bound.
func (w *writer) bindings() []string {
	var list []string
	for i := range w.count() {
		prefix := w.pick("p", "q", "r") + strconv.Itoa(i)
		list = append(list, "xmlns:"+prefix+"=\""+w.pick("u", "v", "w", "u#é")+"\"")
		w.spaces = append(slices.Clip(w.spaces), prefix)
	}
	if w.rare(4) {
		list = append(list, "xmlns=\""+w.pick("u", "v", "", u[:25+w.Intn(12)])+"\"")
	}
	if w.rare(60) {
		list = append(list, w.pick("xmlns=\"\"", "xmlns:p0=\"w\"", "xmlns:p0=\"\"", "xmlns:s=\" \""))
	}
	return list
}

// tag writes bindings and other attributes, in any order.
func (w *writer) tag(bindings []string) {
	list := slices.Clone(bindings)
	for i := range w.count() {
		if w.rare(30) {
			i = 0
		}
		list = append(list, w.prefix()+"k"+strconv.Itoa(i)+"=")
	}
	w.Shuffle(len(list), func(i, k int) { list[i], list[k] = list[k], list[i] })
	for _, text := range list {
		w.blank(true)
		w.WriteString(text)
		if strings.HasSuffix(text, "=") {
			w.WriteString("\"")
			w.raw(w.Intn(4))
			w.WriteString("\"")
		}
	}
	w.blank(false)
}

// element writes an element in at most depth others.
func (w *writer) element(depth int) {
	around := w.spaces
	bindings := w.bindings()
	name := w.prefix() + w.local()
	w.WriteString("<" + name)
	w.tag(bindings)
	if w.rare(4) {
		w.WriteString("/>")
		w.spaces = around
		return
	}
	w.WriteString(">")
	for depth > 0 && !w.rare(3) {
		w.raw(w.Intn(5))
		w.element(depth - 1)
	}
	w.raw(w.Intn(6))
	if w.rare(60) {
		name = w.prefix() + w.local()
	}
	w.WriteString("</" + name)
	w.blank(false)
	w.WriteString(">")
	w.spaces = around
}

// TestRandom holds long texts, and what becomes of them by small changes, against
// the model, also in pieces.
func TestRandom(t *testing.T) {
	r := rand.New(rand.NewSource(14))
	write := func() string {
		w := &writer{Rand: r, refers: r.Intn(4) == 0}
		w.blank(false)
		w.definitions()
		w.element(r.Intn(8))
		w.blank(false)
		return w.String()
	}
	syntax.Random(t, model, write, "<>/!&;:=\" \nax1\x00\xff\xc3\x80", r.Intn,
		api.OK, api.ErrSyntax, api.ErrUTF, api.ErrToken, api.ErrDepth, api.ErrTwice, api.ErrFields, api.ErrEntity, api.ErrEntitySpace, api.ErrExpand, api.ErrName)
}
