package names

import (
	"strings"

	"hexapla/api"
)

// binding is what a prefix is bound to.
type binding struct{ space string }

// bindings are those of one scope, by their prefixes.
type bindings map[string]binding

// Scope keeps the bindings of nested scopes.
type Scope struct{ open []bindings }

// New returns a Scope with no open scope.
func New() *Scope { return &Scope{} }

// Open opens a scope within the innermost one.
func (s *Scope) Open() { s.open = append(s.open, bindings{}) }

// Bind binds prefix to the namespace space in the innermost scope. The empty
// prefix may be bound to no namespace, which hides what it is bound to outside.
func (s *Scope) Bind(prefix, space string) api.Errno {
	if len(s.open) == 0 || !mayBind(prefix, space) {
		return api.ErrArg
	}
	inner := s.open[len(s.open)-1]
	if _, bound := inner[prefix]; bound {
		return api.ErrTwice
	}
	if len(inner) >= api.MaxFields {
		return api.ErrFields
	}
	// Copies, as both may be pieces of a text that would be kept with them.
	inner[strings.Clone(prefix)] = binding{strings.Clone(space)}
	return api.OK
}

// mayBind reports whether a scope may bind prefix to space.
func mayBind(prefix, space string) bool {
	if space == "" {
		return prefix == ""
	}
	return Space(space) && (prefix == "" || Local(prefix))
}

// Close removes the innermost scope with its bindings.
func (s *Scope) Close() api.Errno {
	if len(s.open) == 0 {
		return api.ErrNone
	}
	last := len(s.open) - 1
	s.open[last] = nil // behind the end of the slice, the bindings would be kept
	s.open = s.open[:last]
	return api.OK
}

// Space returns the namespace to which prefix is bound in the innermost scope
// that binds it, and reports whether it may be used: the empty prefix may even
// if no scope binds it.
func (s *Scope) Space(prefix string) (string, bool) {
	for inner := range s.outwards {
		if found, bound := inner[prefix]; bound {
			return found.space, true
		}
	}
	return "", prefix == ""
}

// outwards visits the bindings of the open scopes from the innermost one on.
func (s *Scope) outwards(visit func(bindings) bool) {
	for i := len(s.open) - 1; i >= 0; i-- {
		if !visit(s.open[i]) {
			return
		}
	}
}
