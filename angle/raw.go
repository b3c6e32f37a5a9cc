package angle

import (
	"hexapla/api"
	"hexapla/entities"
	"hexapla/token"
)

// raw is open raw text.
type raw struct {
	known     *entities.Entities
	text      string // its expansion so far
	referring bool   // it ends within a reference
	name      token.Name
}

// endedBy reports whether b is the byte last, where the raw text may end with it.
func (r *raw) endedBy(b, last byte) bool { return b == last && !r.referring }

// add processes a byte of the raw text.
func (r *raw) add(b byte) api.Errno {
	switch {
	case r.referring:
		return r.refer(b)
	case b == '&':
		r.referring = true
		return api.OK
	case b == '<', b < ' ' && !token.Blank(b):
		return api.ErrSyntax
	}
	return r.put(string([]byte{b}))
}

// refer processes a byte of a reference behind its &.
func (r *raw) refer(b byte) api.Errno {
	if r.name.Goes(b) {
		if r.name.Add(b) != api.OK {
			return api.ErrSyntax // no reference has so long a name
		}
		return api.OK
	}
	name, e := r.name.End()
	if e != api.OK || b != ';' {
		return api.ErrSyntax
	}
	text, e := r.known.Get(name)
	if e != api.OK {
		return e
	}
	r.referring = false
	return r.put(text)
}

// put appends text to the expansion, if it is not too long then.
func (r *raw) put(text string) api.Errno {
	if len(r.text)+len(text) > api.MaxToken {
		return api.ErrToken
	}
	r.text += text
	return api.OK
}

// take returns the expansion. The next raw text begins with the next byte.
func (r *raw) take() string {
	text := r.text
	r.text = ""
	return text
}
