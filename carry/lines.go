package carry

import (
	"slices"

	"hexapla/api"
)

// outline visits a value. On its line, so many bytes are ahead of it; among these
// is the blank behind a - or :, also if a block follows, which has none. The lines
// of this block have the indentation that is told.
func (s *search) outline(n api.Node, ahead, indentation int) {
	s.refuse(n.Kind == api.Elem || lineLength(n, ahead) > api.MaxLine)
	s.kids(n, func(kid api.Node) {
		if kid.Kind == api.Key {
			s.kids(kid, func(value api.Node) { s.outline(value, indentation+len(word(kid.Text))+2, indentation+2) })
		} else {
			s.outline(kid, indentation+2, indentation+2)
		}
	})
}

// lineLength returns the length of the line of a value. That of a block, whose
// own lines follow, lacks the last blank.
func lineLength(n api.Node, ahead int) int {
	if len(n.Kids) > 0 {
		return ahead - 1
	}
	return ahead + len(form(nil, n))
}

// sections visits the root.
func (s *search) sections(n api.Node) {
	s.refuse(n.Kind != api.Map)
	s.table(n, 0)
}

// table visits the fields of a table. In a path, so many bytes are ahead of their
// keys.
func (s *search) table(n api.Node, ahead int) {
	deep := false // there has been such a field
	s.kids(n, func(field api.Node) {
		value, path := field.Kids[0], ahead+len(word(field.Text))
		if around := brackets(value); around > 0 {
			deep = true
			s.refuse(path+around > api.MaxLine)
			s.kids(field, func(n api.Node) { s.tables(n, path+1) })
		} else {
			s.refuse(deep || isTooLong(field))
			s.kids(field, s.flat)
		}
	})
}

// tables visits the value of a deep field: a table, or rows, which are tables.
func (s *search) tables(n api.Node, ahead int) {
	if n.Kind == api.Map {
		s.table(n, ahead)
	} else {
		s.kids(n, func(row api.Node) { s.table(row, ahead) })
	}
}

// flat visits what is in a flat field.
func (s *search) flat(n api.Node) {
	s.refuse(n.Kind == api.Elem || n.Kind == api.Null)
	s.kids(n, s.flat)
}

// brackets returns how many bytes are around the path in a header of a field
// with this value, or 0 if the field is flat.
func brackets(value api.Node) int {
	switch {
	case value.Kind == api.Map:
		return len("[]")
	case isRows(value):
		return len("[[]]")
	}
	return 0
}

// isRows reports whether a value is a list of rows, if it is that of a field.
func isRows(value api.Node) bool {
	return value.Kind == api.List && len(value.Kids) > 0 && !slices.ContainsFunc(value.Kids, isNoMap)
}

func isNoMap(n api.Node) bool { return n.Kind != api.Map }

// isTooLong reports whether a flat field would make its line too long.
func isTooLong(field api.Node) bool { return !hasElem(field) && len(form(nil, field)) > api.MaxLine }
