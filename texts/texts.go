// Package texts makes texts for the tests of the other packages.
package texts

import "iter"

// Short visits the texts of at most length bytes of an alphabet.
func Short(alphabet string, length int) iter.Seq[string] {
	return func(visit func(string) bool) { extend("", alphabet, length, visit) }
}

// extend visits text and what at most length bytes more make of it, and reports
// whether the visits are to go on.
func extend(text, alphabet string, length int, visit func(string) bool) bool {
	if !visit(text) {
		return false
	}
	for i := 0; length > 0 && i < len(alphabet); i++ {
		if !extend(text+alphabet[i:i+1], alphabet, length-1, visit) {
			return false
		}
	}
	return true
}
