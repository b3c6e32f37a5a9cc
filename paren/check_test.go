package paren_test

import (
	"hexapla/checks"
	"hexapla/paren"
)

// syntax is what is held against the promises of all decoders.
var syntax = checks.Syntax{New: func() checks.Decoder { return paren.New() }, Decode: paren.Decode}
