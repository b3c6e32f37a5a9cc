// Package texts makes texts for the tests of the other packages.
package texts

import "iter"

// Short visits the texts of at most length bytes of an alphabet.
func Short(alphabet string, length int) iter.Seq[string] {
	var bytes []string
	for i := range len(alphabet) {
		bytes = append(bytes, alphabet[i:i+1])
	}
	return Rows(length, bytes...)
}

// Rows visits the texts of at most length of some tokens.
func Rows(length int, tokens ...string) iter.Seq[string] {
	return func(visit func(string) bool) { extend("", tokens, length, visit) }
}

// extend visits text and what at most length tokens more make of it, and reports
// whether the visits are to go on.
func extend(text string, tokens []string, length int, visit func(string) bool) bool {
	if !visit(text) {
		return false
	}
	for i := 0; length > 0 && i < len(tokens); i++ {
		if !extend(text+tokens[i], tokens, length-1, visit) {
			return false
		}
	}
	return true
}
