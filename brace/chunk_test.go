package brace_test

import (
	"strings"
	"testing"

	"hexapla/api"
)

// samples are texts with all kinds of ends.
var samples = []string{
	"", " ", "null", " true ", "12", "12 ", "[1,2]", `{"a":-1.5e3,"b":[]}`, `["\u00e9","é",false]`, `{"a":1,"a":2}`, "[1 ,2x", "[1e1000]", "1.", "tru", "nul1",
	"[[[[[[[", "[}", `"a`, `"\x"`, "12\xff", "\"\xe2\x82", "\"\xe2\x82\"", "[]]", "1\xc3\xa9", `{"k":{"k":null},"l":"m"}`,
}

// TestSamples holds each sample in pieces, and some of the ends.
func TestSamples(t *testing.T) {
	syntax.Samples(t, samples...)
	syntax.Check(t, "[1 ,2x", "[ 1 2", api.ErrSyntax, 5)
	syntax.Check(t, `{"a":1,"a":2}`, `{ "a": 1`, api.ErrTwice, 9)
}

func TestReportedAt(t *testing.T) {
	syntax.ReportedAt(t, `[ {"a" : 10 , "b": true},null,"c",[ ]] `, "[@0 {@2 a:@5 1e1@11 b:@16 true@22 }@23 null@28 c@32 [@34 ]@36 ]@37")
}

// TestEventually holds that events come before Close, whatever follows them.
func TestEventually(t *testing.T) {
	for text, want := range map[string]string{
		"[1, ": "[ 1", "[1,\"a\" ": `[ 1 "a"`, " null ": "null", "12 ": "12", "[] ": "[ ]", `{"a" `: `{ "a":`, `{"a":false `: `{ "a": false`, "[[{ ": "[ [ {",
	} {
		syntax.Eventually(t, text, " ", want)
	}
}

// TestCloseEndsNumber holds that only Close shows that a number has ended.
func TestCloseEndsNumber(t *testing.T) {
	syntax.OnlyClose(t, "12", "", "12", api.OK, 2)
	syntax.OnlyClose(t, "1e1000", "", "", api.ErrNumber, 6)
	syntax.OnlyClose(t, "1.", "", "", api.ErrSyntax, 2)
	syntax.OnlyClose(t, "[1", "[", "1", api.ErrSyntax, 2)
	syntax.OnlyClose(t, "[1,", "[ 1", "", api.ErrSyntax, 3)
	syntax.OnlyClose(t, "", "", "", api.ErrSyntax, 0)
}

func TestFedBehindError(t *testing.T) {
	syntax.FedBehind(t, "[1,]", "", "1]", "\xff", "]", strings.Repeat("[", 9))
}

func TestIndependent(t *testing.T) {
	syntax.Independent(t, `{"a":[1,2]}`, `["a\u00e9b"]  `, "[12345678,  ", `{"a":1,"a":`, "tru         ")
}

func TestAnswerIsKept(t *testing.T) {
	syntax.Kept(t, `["abc",12,"def"]`, `["ghi",34,"jkl"]`)
}

// TestLongText holds a text with many events, fed whole and in pieces.
func TestLongText(t *testing.T) {
	row := `{"id":10,"name":"a\tb","tags":["x","y",[]],"ok":true,"no":null}`
	want := ` { "id": 1e1 "name": "a\tb" "tags": [ "x" "y" [ ] ] "ok": true "no": null }`
	const rows = 3000
	text := "[" + strings.Repeat(row+",\n", rows-1) + row + "]"
	syntax.Long(t, text, "["+strings.Repeat(want, rows)+" ]")
	if r := syntax.Read(t, text+"x"); len(r.Events) != 2+rows*17 || r.Err != api.ErrSyntax || r.At != len(text) {
		t.Error(len(r.Events), r.Err, r.At)
	}
}
