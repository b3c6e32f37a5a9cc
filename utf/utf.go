// Package utf asks whole texts for what package src asks byte by byte.
package utf

import "hexapla/src"

// Whole reports whether text consists of complete characters. It asks a Scan,
// as the list that src.Runes makes is many times as large as a long text.
func Whole(text string) bool {
	scan := src.New()
	for i := range len(text) {
		if !scan.Step(text[i]) {
			return false
		}
	}
	return scan.Whole()
}
