// Package token reads what is alike in several syntaxes, byte by byte: numbers
// that are as long as possible, and blanks.
package token

import (
	"hexapla/api"
	"hexapla/num"
)

// Number is an open number: the bytes of it so far, at first none.
type Number struct{ text string }

// Goes reports whether some number, of any length, goes on with b.
func (n *Number) Goes(b byte) bool {
	begins, _ := num.May(n.text + string([]byte{b}))
	return begins
}

// Add appends a byte with which the number goes on, if it is not too long then.
func (n *Number) Add(b byte) api.Errno {
	if len(n.text) >= api.MaxDigits {
		return api.ErrToken
	}
	n.text += string([]byte{b})
	return api.OK
}

// End returns the normal form of the number, or the error of a text with which
// it does not go on. The next number begins with the next byte.
func (n *Number) End() (string, api.Errno) {
	text := n.text
	n.text = ""
	if _, whole := num.May(text); !whole {
		return "", api.ErrSyntax
	}
	return num.Read(text)
}

// Blank reports whether b is one of the four blanks.
func Blank(b byte) bool { return b == ' ' || b == '\t' || b == '\n' || b == '\r' }
