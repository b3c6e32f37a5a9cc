// Package token reads what is alike in several syntaxes, byte by byte: numbers
// and names that are as long as possible, and blanks.
package token

import (
	"hexapla/api"
	"hexapla/names"
	"hexapla/num"
)

// Number is an open number: the bytes of it so far, at first none.
type Number struct{ open }

// Name is an open local name, in the same way.
type Name struct{ open }

// Bare is an open local name without a dot, in the same way.
type Bare struct{ Name }

// open are the bytes of an open token.
type open struct{ text string }

// add appends a byte, if there are not most of them already.
func (o *open) add(b byte, most int) api.Errno {
	if len(o.text) >= most {
		return api.ErrToken
	}
	o.text += string([]byte{b})
	return api.OK
}

// take returns the bytes. The next token begins with the next byte.
func (o *open) take() string {
	text := o.text
	o.text = ""
	return text
}

// Goes reports whether some number, of any length, goes on with b.
func (n *Number) Goes(b byte) bool {
	begins, _ := num.May(n.text + string([]byte{b}))
	return begins
}

// Add appends a byte with which the number goes on, if it is not too long then.
func (n *Number) Add(b byte) api.Errno { return n.add(b, api.MaxDigits) }

// End returns the normal form of the number, or the error of a text with which
// it does not go on.
func (n *Number) End() (string, api.Errno) {
	text := n.take()
	if _, whole := num.May(text); !whole {
		return "", api.ErrSyntax
	}
	return num.Read(text)
}

// Goes reports whether some local name, of any length, goes on with b.
func (n *Name) Goes(b byte) bool {
	text := string([]byte{b})
	if n.text != "" {
		text = n.text[:1] + text // one that is not too long
	}
	return names.Local(text)
}

// Add appends a byte with which the name goes on, if it is not too long then.
func (n *Name) Add(b byte) api.Errno { return n.add(b, api.MaxName) }

// End returns the name, or ErrSyntax if there is none.
func (n *Name) End() (string, api.Errno) {
	text := n.take()
	if text == "" {
		return "", api.ErrSyntax
	}
	return text, api.OK
}

// Goes reports whether some local name without a dot, of any length, goes on
// with b.
func (n *Bare) Goes(b byte) bool { return b != '.' && n.Name.Goes(b) }

// Blank reports whether b is one of the four blanks.
func Blank(b byte) bool { return b == ' ' || b == '\t' || b == '\n' || b == '\r' }
