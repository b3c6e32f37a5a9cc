package angle

import (
	"hexapla/api"
	"hexapla/names"
	"hexapla/stream"
	"hexapla/token"
)

// maxAttrs is how many attributes a tag may have, bindings among them.
const maxAttrs = 20

// name is a name as it is written.
type name struct{ prefix, local string }

// openName is an open name.
type openName struct {
	token.Name        // what is behind its colon, or all if there is none yet
	prefix     string // what is ahead of its colon
}

// Goes reports whether the name may go on with b.
func (n *openName) Goes(b byte) bool { return n.Name.Goes(b) || b == ':' && n.prefix == "" }

// Add appends a byte with which the name goes on, or returns the error that is
// met there.
func (n *openName) Add(b byte) api.Errno {
	if b != ':' {
		return n.Name.Add(b)
	}
	var e api.Errno
	n.prefix, e = n.Name.End()
	return e
}

// End returns the name, or ErrSyntax if there is none. The next name begins with
// the next byte.
func (n *openName) End() (name, api.Errno) {
	prefix := n.prefix
	n.prefix = ""
	local, e := n.Name.End()
	return name{prefix, local}, e
}

// attr is an attribute as it is written, but for the expansion of its value.
type attr struct {
	name name
	val  string
}

// binds returns the prefix that an attribute binds, and whether it does so.
func (a attr) binds() (string, bool) {
	switch {
	case a.name.prefix == "xmlns":
		return a.name.local, true
	case a.name == name{local: "xmlns"}:
		return "", true
	}
	return "", false
}

// inName processes a byte of a name, or the one behind it, which stands at the
// next place. The name is kept in whole.
func (m *machine) inName(b byte, whole *name, next place, out *stream.Out) api.Errno {
	if m.name.Goes(b) {
		return m.name.Add(b)
	}
	var e api.Errno
	if *whole, e = m.name.End(); e != api.OK {
		return e
	}
	m.at = next
	return m.Step(b, out)
}

// behindAttr processes the byte behind the name of an element, or behind an
// attribute.
func (m *machine) behindAttr(b byte, out *stream.Out) api.Errno {
	if token.Blank(b) {
		m.at = attrDue
		return api.OK
	}
	return m.endAttrs(b, out)
}

// beginAttr processes the byte behind a blank in a tag.
func (m *machine) beginAttr(b byte, out *stream.Out) api.Errno {
	if b == '/' || b == '>' {
		return m.endAttrs(b, out)
	}
	m.at = inAttrName
	return m.Step(b, out)
}

// equals processes the byte behind the name of an attribute.
func (m *machine) equals(b byte) api.Errno {
	if b == '=' && len(m.attrs) >= maxAttrs {
		return api.ErrFields
	}
	return m.must(b, '=', attrQuoteDue)
}

// attrText processes a byte of the value of an attribute, or the one that ends
// it.
func (m *machine) attrText(b byte) api.Errno {
	if !m.raw.endedBy(b, '"') {
		return m.raw.add(b)
	}
	m.at = behindAttr
	m.attrs = append(m.attrs, attr{m.attr, m.raw.take()})
	return api.OK
}

// endAttrs processes the byte that ends the attributes of a tag.
func (m *machine) endAttrs(b byte, out *stream.Out) api.Errno {
	switch b {
	case '/':
		m.at = emptyEndDue
	case '>':
		m.at = inContents
	default:
		return api.ErrSyntax
	}
	m.open = append(m.open, m.elem)
	m.scope.Open()
	if e := m.bind(); e != api.OK {
		return e
	}
	return m.tellElem(out)
}

// bind binds what the attributes of the open tag bind.
func (m *machine) bind() api.Errno {
	for _, a := range m.attrs {
		prefix, binds := a.binds()
		if !binds {
			continue
		}
		switch e := m.scope.Bind(prefix, a.val); e {
		case api.OK:
		case api.ErrArg:
			return api.ErrName
		default:
			return e
		}
	}
	return api.OK
}

// tellElem tells the element of the open tag, and its attributes.
func (m *machine) tellElem(out *stream.Out) api.Errno {
	if e := m.tell(api.Event{Kind: api.Elem}, m.elem, out); e != api.OK {
		return e
	}
	for _, a := range m.attrs {
		if _, binds := a.binds(); binds {
			continue
		}
		if e := m.tell(api.Event{Kind: api.Attr, Val: a.val}, a.name, out); e != api.OK {
			return e
		}
	}
	m.attrs = nil
	return api.OK
}

// tell tells the event of an element or of an attribute, with its full name.
func (m *machine) tell(x api.Event, n name, out *stream.Out) api.Errno {
	space, bound := "", true // which holds for attributes without a prefix
	if x.Kind == api.Elem || n.prefix != "" {
		space, bound = m.scope.Space(n.prefix)
	}
	full, is := names.Join(space, n.local)
	if !bound || !is {
		return api.ErrName
	}
	x.Text = full
	return out.Tell(x)
}

// endEmpty processes the byte behind the / of an element without contents.
func (m *machine) endEmpty(b byte, out *stream.Out) api.Errno {
	if b != '>' {
		return api.ErrSyntax
	}
	return m.endElem(out)
}

// endTag processes the byte that ends an end tag.
func (m *machine) endTag(b byte, out *stream.Out) api.Errno {
	if b != '>' {
		return api.ErrSyntax
	}
	if m.end != m.open[len(m.open)-1] {
		return api.ErrName
	}
	return m.endElem(out)
}

// endElem ends the innermost element.
func (m *machine) endElem(out *stream.Out) api.Errno {
	m.scope.Close()
	m.open = m.open[:len(m.open)-1]
	m.at = inContents
	if len(m.open) == 0 {
		m.at = behind
	}
	return out.Tell(api.Event{Kind: api.EndElem})
}
