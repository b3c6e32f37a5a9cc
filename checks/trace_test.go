package checks_test

import (
	"slices"
	"strings"
	"testing"

	"hexapla/api"
	"hexapla/brace"
	"hexapla/checks"
	"hexapla/texts"
)

// trace writes down what a decoder is asked: what it is fed, ? where it is asked
// for events, and $ where it is closed. What follows that is left out.
type trace struct {
	*brace.Decoder
	asked string
	ended bool
}

func (d *trace) note(what string) {
	if !d.ended && (what != "?" || !strings.HasSuffix(d.asked, "?")) {
		d.asked += what
	}
}

func (d *trace) Feed(b []byte) bool {
	d.note("(" + string(b) + ")")
	return d.Decoder.Feed(b)
}

func (d *trace) Close() {
	d.note("$")
	d.ended = true
	d.Decoder.Close()
}

func (d *trace) Next() (api.Event, api.State) {
	d.note("?")
	return d.Decoder.Next()
}

// traced returns what the decoders of a check are asked.
func traced(check func(s checks.Syntax)) []string {
	var all []*trace
	check(checks.Syntax{Decode: brace.Decode, New: func() checks.Decoder {
		all = append(all, &trace{Decoder: brace.New()})
		return all[len(all)-1]
	}})
	var asked []string
	for _, d := range all {
		asked = append(asked, d.asked)
	}
	return asked
}

// picks returns a pick that gives these numbers, one by one.
func picks(numbers ...int) func(n int) int {
	return func(int) int {
		next := numbers[0]
		numbers = numbers[1:]
		return next
	}
}

func TestTrace(t *testing.T) {
	for name, l := range map[string]struct {
		check func(s checks.Syntax)
		want  []string
	}{
		"asked between": {func(s checks.Syntax) { s.Pieces(t, []string{"1", "2"}, true, right.Read(t, "12")) }, []string{"?(1)?(2)?$"}},
		"asked last":    {func(s checks.Syntax) { s.Pieces(t, []string{"1", "2"}, false, right.Read(t, "12")) }, []string{"(1)(2)$"}},
		"each": {func(s checks.Syntax) { s.Each(t, "12", right.Read(t, "12")) }, []string{
			"?(1)?(2)?$", "?()?(1)?()?()?()?(2)?()?()?$", "(1)(2)$", "()(1)()()()(2)()()$",
			"?(12)?$", "?()?(12)?()?()?$", "(12)$", "()(12)()()$",
		}},
		"nothing":   {func(s checks.Syntax) { s.Each(t, "", right.Read(t, "")) }, []string{"?$", "?$", "$", "$"}},
		"divisions": {func(s checks.Syntax) { s.Divisions(t, "123") }, []string{"?(123)?$", "(123)$", "?(1)?(23)?$", "(1)(23)$", "?(12)?(3)?$", "(12)(3)$", "?(1)?(2)?(3)?$", "(1)(2)(3)$"}},
		"behind":    {func(s checks.Syntax) { s.FedBehind(t, "]x", "", "y") }, []string{"?(]x)?()?()?$", "(]x)()()$", "?(]x)?(y)?(y)?$", "(]x)(y)(y)$"}},
		"long":      {func(s checks.Syntax) { s.Long(t, "12345678", "12345678") }, []string{"(1)(2)(3)(4)(5)(6)(7)(8)$", "?(1234567)?(8)?$", "?(12345678)?$", "?(12345678)?$"}},
		"cut": {func(s checks.Syntax) {
			s.AgainstCut(t, "12345678901", item, picks(9, 0, 2, 1))
			s.AgainstCut(t, "12", item, picks(1, 0, 1, 0))
		}, []string{"(123456789)()(01)$", "?(1)?()?(2)?$"}},
		"one by one": {func(s checks.Syntax) { s.NotEarly(t, "12") }, []string{"(1)?(2)?"}},
		"eventually": {func(s checks.Syntax) { s.Eventually(t, "1 ", " ", "1") }, []string{"(1 )?" + strings.Repeat("("+strings.Repeat(" ", 64)+")?", 1024)}},
		"only Close": {func(s checks.Syntax) { s.OnlyClose(t, "1", "", "1", api.OK, 1) }, []string{"(1)?$"}},
		"in turns":   {func(s checks.Syntax) { s.Independent(t, "12", "3") }, []string{"(1)(2)$", "(3)$"}},
	} {
		got := traced(l.check)
		if !slices.Equal(got, l.want) {
			t.Errorf("%s: %q", name, got)
		}
	}
}

// TestWrongTokens asks a Decode that takes one error for another.
func TestWrongTokens(t *testing.T) {
	ahead := texts.Pair{Text: "[", Want: "["}
	for _, e := range []api.Errno{api.ErrSyntax, api.ErrUTF, api.ErrToken, api.ErrNumber, api.ErrEscape} {
		s := decoding(func(text []byte) ([]api.Event, api.Errno, int) {
			l, got, at := brace.Decode(text)
			if got == e {
				got = api.ErrArg
			}
			return l, got, at
		})
		if e != api.ErrEscape {
			expect(t, e.Error(), true, func(t checks.T) { s.NoNumbers(t, ahead, " ") })
		}
		if e != api.ErrNumber {
			expect(t, e.Error(), true, func(t checks.T) { s.NoStrings(t, ahead) })
		}
	}
}
