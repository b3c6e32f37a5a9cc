package inkbrace_test

import (
	"strings"

	"hexapla/api"
	"hexapla/brace"
	"hexapla/checks"
	"hexapla/inkbrace"
	"hexapla/prints"
)

// printer is what is held against the promises of all printers.
var printer = prints.Printer{
	Number: api.Brace,
	Syntax: checks.Syntax{New: func() checks.Decoder { return brace.New() }, Decode: brace.Decode},
	Print:  inkbrace.Print,
}

// times writes something n times.
func times(n int, written string) string { return strings.Repeat(written, n) }
