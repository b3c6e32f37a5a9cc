package brace_test

import (
	"hexapla/brace"
	"hexapla/checks"
)

// syntax is what is held against the promises of all decoders.
var syntax = checks.Syntax{New: func() checks.Decoder { return brace.New() }, Decode: brace.Decode}
