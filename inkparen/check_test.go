package inkparen_test

import (
	"strings"

	"hexapla/api"
	"hexapla/checks"
	"hexapla/inkparen"
	"hexapla/paren"
	"hexapla/prints"
)

// printer is what is held against the promises of all printers.
var printer = prints.Printer{
	Number: api.Paren,
	Syntax: checks.Syntax{New: func() checks.Decoder { return paren.New() }, Decode: paren.Decode},
	Print:  inkparen.Print,
}

// times writes something n times.
func times(n int, written string) string { return strings.Repeat(written, n) }
