// Package texts makes texts for the tests of the other packages.
package texts

import (
	"iter"
	"slices"
)

// Short visits the texts of at most length bytes of an alphabet.
func Short(alphabet string, length int) iter.Seq[string] {
	var bytes []string
	for i := range len(alphabet) {
		bytes = append(bytes, alphabet[i:i+1])
	}
	return Rows(length, bytes...)
}

// Rows visits the texts of at most length of some tokens.
func Rows(length int, tokens ...string) iter.Seq[string] {
	join := func(text, token string) string { return text + token }
	return func(visit func(string) bool) { extend("", join, tokens, length, visit) }
}

// Lists visits the lists of at most length of some tokens.
func Lists(length int, tokens ...string) iter.Seq[[]string] {
	add := func(list []string, token string) []string { return append(slices.Clip(list), token) }
	return func(visit func([]string) bool) { extend(nil, add, tokens, length, visit) }
}

// extend visits row and what at most length tokens more make of it, and reports
// whether the visits are to go on.
func extend[T any](row T, more func(T, string) T, tokens []string, length int, visit func(T) bool) bool {
	if !visit(row) {
		return false
	}
	for i := 0; length > 0 && i < len(tokens); i++ {
		if !extend(more(row, tokens[i]), more, tokens, length-1, visit) {
			return false
		}
	}
	return true
}
