// Package src validates UTF-8 byte by byte and finds the lines and columns of
// a text. See shared/doc/01-src.md.
package src

import "hexapla/api"

// A byte between these two only ever continues a character.
const (
	tailLow  = 0x80
	tailHigh = 0xBF
)

// What a number must not be, or not exceed, to be a character.
const (
	surrogateLow  = 0xD800
	surrogateHigh = 0xDFFF
	lastCharacter = 0x10FFFF
)

// Scan validates a sequence of bytes that comes one by one.
type Scan struct {
	left int // bytes that the open character still lacks
	// The bounds of the next of them. They are narrower than those of other
	// continuing bytes where the first byte alone does not exclude surrogates,
	// numbers past the last character, or an encoding that is too long.
	low, high byte
}

// New returns a Scan that has accepted no bytes.
func New() *Scan { return &Scan{low: tailLow, high: tailHigh} }

// Step accepts b if it continues the accepted bytes, and reports whether it does.
func (s *Scan) Step(b byte) bool {
	next := Scan{low: tailLow, high: tailHigh}
	if s.left > 0 {
		goto tail
	}
	switch {
	case b < 0x80:
		goto accept
	case b < 0xC2: // a tail, or the lead of what fits into one byte
		return false
	case b < 0xE0:
		goto two
	case b < 0xF0:
		goto three
	case b < 0xF5: // what follows leads only past the last character
		goto four
	}
	return false
tail:
	if b < s.low || b > s.high {
		return false
	}
	next.left = s.left - 1
	goto accept
	// A longer character runs through the shorter ones, for a byte left in each;
	// their bounds depend on leads that it cannot have.
four:
	switch b {
	case 0xF0:
		next.low = 0x90
	case 0xF4:
		next.high = 0x8F
	}
	next.left++
three:
	switch b {
	case 0xE0:
		next.low = 0xA0
	case 0xED:
		next.high = 0x9F
	}
	next.left++
two:
	next.left++
accept:
	*s = next
	return true
}

// Whole reports whether the accepted bytes end with a complete character.
func (s *Scan) Whole() bool { return s.left == 0 }

// Runes returns the numbers of the characters of text.
func Runes(text string) ([]int, bool) {
	var list []int
	scan, number := New(), 0
	for i := range len(text) {
		if !scan.Step(text[i]) {
			return nil, false
		}
		number = number<<6 | payload(text[i])
		if scan.Whole() {
			list = append(list, number)
			number = 0
		}
	}
	if !scan.Whole() {
		return nil, false
	}
	return list, true
}

// payload returns the bits that an accepted byte adds to its character.
func payload(b byte) int {
	switch {
	case b < 0x80:
		return int(b)
	case b < 0xC0:
		return int(b & 0x3F)
	case b < 0xE0:
		return int(b & 0x1F)
	case b < 0xF0:
		return int(b & 0x0F)
	}
	return int(b & 0x07)
}

// Put returns the encoding of the character r.
func Put(r int) (string, bool) {
	if !isCharacter(r) {
		return "", false
	}
	var out []byte
	switch {
	case r < 0x80:
		return string([]byte{byte(r)}), true
	case r < 0x800:
		out = append(out, 0xC0|byte(r>>6))
		goto oneMore
	case r < 0x10000:
		out = append(out, 0xE0|byte(r>>12))
		goto twoMore
	}
	out = append(out, 0xF0|byte(r>>18), tailByte(r>>12))
twoMore:
	out = append(out, tailByte(r>>6))
oneMore:
	out = append(out, tailByte(r))
	return string(out), true
}

func isCharacter(r int) bool {
	return 0 <= r && r <= lastCharacter && (r < surrogateLow || r > surrogateHigh)
}

// tailByte returns the continuing byte that carries the lowest six bits of r.
func tailByte(r int) byte { return tailLow | byte(r&0x3F) }

// Place returns the line and the column of the byte at off, from 1.
func Place(text string, off int) (int, int, api.Errno) {
	if off < 0 || off > len(text) {
		return 0, 0, api.ErrArg
	}
	place := complex(1, 1)
	for i := range off {
		place = behind(place, text[i])
	}
	return int(real(place)), int(imag(place)), api.OK
}

// behind returns the place after b, which stands at place: line + column i.
// Both parts stay exact, as no text is nearly as long as a float64 is precise.
func behind(place complex128, b byte) complex128 {
	switch {
	case b == '\n':
		return complex(real(place)+1, 1)
	case tailLow <= b && b <= tailHigh: // a character takes one column
		return place
	}
	return place + 1i
}
