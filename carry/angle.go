package carry

import (
	"slices"
	"strings"

	"hexapla/api"
	"hexapla/names"
)

// binding is the name of the attribute that binds the empty prefix.
const binding = "xmlns"

// angle visits the root.
func (s *search) angle(n api.Node) {
	s.refuse(n.Kind != api.Elem)
	s.elem(n, "")
}

// elem visits an Elem. Around it is the namespace outer, or none if this is empty.
func (s *search) elem(n api.Node, outer string) {
	own := space(n.Text)
	needed := attrSpaces(n)
	if own != outer {
		needed++
	}
	// With the Attrs, of which there are no more, these are at most 20, too.
	s.refuse(needed > api.MaxFields)
	s.kids(n, func(kid api.Node) {
		switch kid.Kind {
		case api.Attr:
			s.refuse(kid.Text == binding || !isRaw(kid.Val))
		case api.Text:
			s.refuse(!isRaw(kid.Text))
		default:
			s.elem(kid, own)
		}
	})
}

// attrSpaces returns how many different namespaces the names of the Attrs of an
// Elem have.
func attrSpaces(n api.Node) int {
	var spaces []string
	for _, kid := range n.Kids {
		if kid.Kind != api.Attr {
			break // the contents follow
		}
		if own := space(kid.Text); own != "" && !slices.Contains(spaces, own) {
			spaces = append(spaces, own)
		}
	}
	return len(spaces)
}

// space returns the namespace of a full name, or nothing if it has none.
func space(full string) string {
	space, _, _ := names.Cut(full)
	return space
}

// isRaw reports whether text can be written as raw text.
func isRaw(text string) bool { return !strings.ContainsFunc(text, isControl) }

// isControl reports whether no raw text has, or stands for, the character r.
func isControl(r rune) bool { return r < ' ' && r != '\t' && r != '\n' && r != '\r' }
