package carry

import (
	"slices"
	"strings"

	"hexapla/api"
	"hexapla/names"
	"hexapla/quote"
	"hexapla/tree"
)

// Word returns a key as a word.
func Word(key string) (string, api.Errno) {
	if names.Local(key) && !strings.Contains(key, ".") {
		return strings.Clone(key), api.OK // an answer shares no memory with what is asked
	}
	return quote.Print(key)
}

// word returns a key of a tree as a word.
func word(key string) string {
	w, _ := Word(key) // no key of a tree has an error
	return w
}

// Row returns the one-line form of the tree n.
func Row(n api.Node) (string, api.Errno) {
	if e := tree.May(n); e != api.OK {
		return "", e
	}
	if hasElem(n) {
		return "", api.ErrCannotCarry
	}
	return string(form(nil, n)), api.OK
}

// hasElem reports whether n is an Elem or contains one.
func hasElem(n api.Node) bool {
	return n.Kind == api.Elem || slices.ContainsFunc(n.Kids, hasElem)
}

// form appends the one-line form of a value, or of a field, without Elems.
func form(out []byte, n api.Node) []byte {
	switch n.Kind {
	case api.Null:
		return append(out, "null"...)
	case api.Text:
		quoted, _ := quote.Print(n.Text) // no text of a tree has an error
		return append(out, quoted...)
	case api.List:
		return parts(out, '[', n.Kids, ']')
	case api.Map:
		return parts(out, '{', n.Kids, '}')
	case api.Key:
		out = append(out, word(n.Text)...)
		return form(append(out, " = "...), n.Kids[0])
	}
	return append(out, n.Text...)
}

// parts appends the one-line forms of values, or of fields, between brackets.
func parts(out []byte, opening byte, kids []api.Node, closing byte) []byte {
	out = append(out, opening)
	for i, kid := range kids {
		if i > 0 {
			out = append(out, ", "...)
		}
		out = form(out, kid)
	}
	return append(out, closing)
}
