package checks_test

import (
	"math/rand"
	"strconv"
	"strings"
	"testing"

	"hexapla/api"
	"hexapla/checks"
)

// list is a model of lists of lists, of numbers, and of strings, of which none
// may stand twice, and each of which ends with a comma.
func list(r *checks.Reader) {
	r.Expect('(')
	r.At--
	r.Open()
	r.Last(api.Event{Kind: api.List})
	for r.Next() != ')' {
		item(r)
		r.Expect(',')
	}
	r.Last(api.Event{Kind: api.EndList})
	r.Shut()
}

func item(r *checks.Reader) {
	switch r.Next() {
	case '(':
		list(r)
	case '"':
		text := r.Quoted()
		r.Key(text)
		r.Last(api.Event{Kind: api.Text, Text: text})
	default:
		r.Number()
	}
}

func TestRead(t *testing.T) {
	ones := strings.Repeat("1", 30)
	ten, told := "", ""
	for i := range 10 {
		ten += strconv.Quote(strconv.Itoa(i)) + ","
		told += " " + strconv.Quote(strconv.Itoa(i))
	}
	for text, want := range map[string]string{
		"()": "[ ], error 0 at 2", "(10,1.5,)": "[ 1e1 15e-1 ], error 0 at 9", `("a",("a",),)`: `[ "a" [ "a" ] ], error 0 at 13`, "(" + ones + ",)": "[ " + ones + " ], error 0 at 33",
		"": ", error 2 at 0", "1": ", error 2 at 0", "(": "[, error 2 at 1", "(1": "[ 1, error 2 at 2", "(1,": "[ 1, error 2 at 3", "()1": "[ ], error 2 at 2", "(1;": "[ 1, error 2 at 2", "(1.,": "[, error 2 at 3", "(x": "[, error 2 at 1", `("a`: "[, error 2 at 3",
		"(1e1000,": "[, error 8 at 7", "(" + ones + "1": "[, error 4 at 31", `("\x`: "[, error 9 at 3", `("a","a"`: `[ "a", error 6 at 7`, "(" + ten + ")": "[" + told + " ], error 0 at 42", "(" + ten + `""`: "[" + told + ", error 7 at 42", "(" + ten + `"0"`: "[" + told + ", error 6 at 43",
		"((((((": "[ [ [ [ [ [, error 2 at 6", "(((((((": "[ [ [ [ [ [, error 5 at 6", "((((((),),),),),),": "[ [ [ [ [ [ ] ] ] ] ] ], error 2 at 17",
		"\xff": ", error 3 at 0", "(1\xff": "[, error 3 at 2", "(1,\xff": "[ 1, error 3 at 3", "x\xff": ", error 2 at 0", "(\"\xe2\x82": "[, error 3 at 4", "(\"\xe2\x82x": "[, error 3 at 4", "(\"é\xe2\x28": "[, error 3 at 5", "(\xc3": "[, error 2 at 1", "(),\xff": "[ ], error 2 at 2",
		"(\"\xed\xa0": "[, error 3 at 3", "(\"\xf4\x90": "[, error 3 at 3", "(\"\xf0\x9f\x98\x80\xf0\x8f": "[, error 3 at 7", "(\"\xe0\x9f": "[, error 3 at 3",
	} {
		if got := checks.Read(text, list).Written(); got != want {
			t.Errorf("%q: %s, not %s", text, got, want)
		}
	}
}

// TestReadPanic holds that a fault of a model is not taken for an error.
func TestReadPanic(t *testing.T) {
	defer func() {
		if got := recover(); got != "x" {
			t.Error(got)
		}
	}()
	checks.Read("1", func(*checks.Reader) { panic("x") })
}

func TestAgainst(t *testing.T) {
	scalar := func(r *checks.Reader) { item(r) }
	pick := func(n int) int { return n - 1 }
	for text, faulty := range map[string]bool{"1": false, "1x": false, "": false, "1e1000": false, "12345678901": false, " 1": true, "null": true} {
		expect(t, text, faulty, func(t checks.T) { right.Against(t, text, scalar) })
		expect(t, text, faulty, func(t checks.T) { right.AgainstCut(t, text, scalar, pick) })
	}
	c := new(checks.Faults)
	if e := right.Against(c, "1e1000", scalar); e != api.ErrNumber {
		t.Error(e)
	}
	if e := right.AgainstCut(c, "1x", scalar, pick); e != api.ErrSyntax {
		t.Error(e)
	}
	expect(t, "pieces of one byte", true, func(t checks.T) { losing(1).AgainstCut(t, "12", scalar, pick) })
	expect(t, "what is decoded at once", false, func(t checks.T) { losing(1).Against(t, "12", scalar) })
}

func TestRandom(t *testing.T) {
	pick := rand.New(rand.NewSource(3)).Intn
	scalar := func(r *checks.Reader) { item(r) }
	for _, l := range []struct {
		name, text, bytes string
		syntax            checks.Syntax
		errs              []api.Errno
		faulty            bool
	}{
		{"right", "10", "1x", right, []api.Errno{api.OK, api.ErrSyntax}, false},
		{"nothing asked", "10", "1x", right, nil, false},
		{"an error that is not met", "10", "1x", right, []api.Errno{api.ErrSyntax, api.ErrNumber}, true},
		{"a text that is not of the model", " 10", "1x", right, nil, true},
		{"a change that is not", "10", " ", right, nil, true},
		{"in pieces", "10", "1x", losing(1), nil, true},
	} {
		written := 0
		expect(t, l.name, l.faulty, func(t checks.T) {
			l.syntax.Random(t, scalar, func() string { written++; return l.text }, l.bytes, pick, l.errs...)
		})
		if written != 3000 {
			t.Errorf("%s: %d texts", l.name, written)
		}
	}
}
