package events_test

import (
	"math/rand"
	"strings"
	"testing"
	"unicode/utf8"

	"hexapla/api"
	"hexapla/events"
	"hexapla/names"
	"hexapla/num"
	"hexapla/texts"
)

// where returns events behind which one of this kind may stand.
func where(kind int) []api.Event {
	switch kind {
	case api.EndList:
		return []api.Event{list}
	case api.Key, api.EndMap:
		return []api.Event{object}
	case api.Attr, api.EndElem:
		return []api.Event{elem}
	}
	return nil
}

// checkForm holds whether Text and Val of x are allowed for its kind, also
// where it may not stand.
func checkForm(t *testing.T, x api.Event, want bool) {
	t.Helper()
	c := after(t, where(x.Kind)...)
	switch e := c.Step(x); {
	case want && e != api.OK, !want && e != api.ErrEvents:
		t.Errorf("%d %q %q: %v", x.Kind, x.Text, x.Val, e)
	}
	if !want {
		c = after(t, ev(api.Null))
		checkStep(t, c, x, api.ErrEvents)
	}
}

// TestBare holds that the kinds without a text have none.
func TestBare(t *testing.T) {
	for _, kind := range []int{api.Null, api.List, api.EndList, api.Map, api.EndMap, api.EndElem} {
		checkForm(t, ev(kind), true)
		for _, text := range []string{"x", " ", "null", "e", "\x00", "\xff", strings.Repeat("x", 100)} {
			checkForm(t, ev(kind, text), false)
			checkForm(t, ev(kind, "", text), false)
			checkForm(t, ev(kind, text, text), false)
		}
	}
}

// TestVal holds that no kind but Attr has a Val.
func TestVal(t *testing.T) {
	for _, x := range []api.Event{
		ev(api.Bool, "true"), ev(api.Bool, "false"), ev(api.Number, "1"), ev(api.Text, ""), ev(api.Text, "x"), ev(api.Key, ""), ev(api.Key, "a"), ev(api.Elem, "e"),
	} {
		checkForm(t, x, true)
		for _, val := range []string{"v", " ", x.Text + "x", "\x00", "\xff"} {
			checkForm(t, ev(x.Kind, x.Text, val), false)
		}
	}
}

// TestKinds holds that a kind that is none of the kinds is refused everywhere.
func TestKinds(t *testing.T) {
	for _, ahead := range [][]api.Event{nil, {scalar}, {list}, {list, scalar}, {object}, {object, key("a")}, {object, key("a"), scalar}, {elem}, {elem, attr("a")}, {elem, text}} {
		c := after(t, ahead...)
		for _, kind := range []int{0, -1, -12, 13, 14, 99, 256 + api.Null, 1<<32 + api.Null, 1 << 62, -1 << 63} {
			for _, x := range []api.Event{ev(kind), ev(kind, "a"), ev(kind, "a", "v"), ev(kind, "true"), ev(kind, "1")} {
				checkStep(t, c, x, api.ErrEvents)
			}
		}
	}
}

func TestBools(t *testing.T) {
	checkForm(t, ev(api.Bool, "true"), true)
	checkForm(t, ev(api.Bool, "false"), true)
	for _, text := range []string{"", "t", "f", "True", "FALSE", "true ", " false", "truefalse", "yes", "no", "0", "1", "null", "\xff"} {
		checkForm(t, ev(api.Bool, text), false)
	}
}

func TestNumbers(t *testing.T) {
	d := strings.Repeat("1", 40)
	for _, text := range []string{"0", "1", "-1", "9", "11", "-15", "1e1", "15e-1", "-15e-1", "101", "1e999", "1e-999", "-7e999", d[:30], "-" + d[:29], d[:26] + "e999"} {
		checkForm(t, ev(api.Number, text), true)
	}
	for _, text := range []string{
		"", "-", "e", "1e", "1e-", ".", "1.", ".1", "+1", " 1", "1 ", "a", "NaN", "0x1", "1_0", "\xff", "1\xff", "01", "--1", "true", // no numbers
		"10", "100", "-10", "1.5", "1.0", "0.1", "-0", "0e0", "0e1", "0.0", "1E1", "1e+1", "1e01", "1e0", "1e-0", "10e1", "15e-01", "-1.5", // other forms
		"1e1000", "1e-1000", d[:31], "-" + d[:30], d[:27] + "e999", d, // too large
	} {
		checkForm(t, ev(api.Number, text), false)
	}
}

// TestNumberForms holds all short texts of some bytes against their normal form.
func TestNumberForms(t *testing.T) {
	for text := range texts.Short("-+.e019", 5) {
		form, e := num.Read(text)
		checkForm(t, ev(api.Number, text), e == api.OK && form == text)
	}
}

// checkValid holds whether text is a valid one, wherever such may stand.
func checkValid(t *testing.T, text string, want bool) {
	t.Helper()
	checkForm(t, ev(api.Text, text), want)
	checkForm(t, ev(api.Key, text), want)
	checkForm(t, ev(api.Attr, "a", text), want)
	inner := api.ErrEvents
	if want && text != "" {
		inner = api.OK
	}
	checkStep(t, after(t, elem), ev(api.Text, text), inner)
}

func TestValid(t *testing.T) {
	s := strings.Repeat("s", 1000)
	for _, text := range []string{
		"", "a", " ", "\x00", "\n", "\x7f", "a b", `"`, "{u}a", "é", "€", "\U0001f600", "\ufeff", "\uffff", "\U0010ffff", "aé€\U0001f600",
		s[:47], s[:48], strings.Repeat("é", 24), strings.Repeat("€", 16), strings.Repeat("\U0001f600", 12), s[:46] + "é",
	} {
		checkValid(t, text, true)
	}
	for _, text := range []string{
		s[:49], s[:50], s, s[:47] + "é", strings.Repeat("é", 25), strings.Repeat("€", 17), strings.Repeat("\U0001f600", 13),
		"\x80", "\xbf", "\xff", "a\xff", "\xffa", "é\xa9", "\xc3", "a\xc3", "\xe2\x82", "\xf0\x9f\x98", "\xc0\x80", "\xe0\x80\xbc", "\xed\xa0\x80", "\xf4\x90\x80\x80",
		s[:47] + "\xc3", s[:47] + "\xff", s[:48] + "\xff",
	} {
		checkValid(t, text, false)
	}
}

// TestValidBytes holds texts of random bytes, which are often characters,
// against the library.
func TestValidBytes(t *testing.T) {
	r := rand.New(rand.NewSource(5))
	parts := []string{"a", "é", "€", "\U0001f600", "\xc3", "\x80", "\xff"}
	for range 20000 {
		var text string
		for range r.Intn(20) {
			text += parts[r.Intn(4+r.Intn(4))]
		}
		checkValid(t, text, utf8.ValidString(text) && len(text) <= 48)
	}
}

// checkName holds whether text is a full name, wherever such must stand.
func checkName(t *testing.T, text string, want bool) {
	t.Helper()
	checkForm(t, ev(api.Elem, text), want)
	checkForm(t, ev(api.Attr, text, "v"), want)
	checkForm(t, ev(api.Attr, text), want)
}

func TestNames(t *testing.T) {
	n, s := strings.Repeat("n", 17), strings.Repeat("s", 60)
	for _, text := range []string{"a", "_", "A1-._", n[:16], "{u}a", "{http://example.com/}a.b", "{é}a", "{u}" + n[:16], "{" + s[:45] + "}a"} {
		checkName(t, text, true)
	}
	for _, text := range []string{
		"", "1", "-a", "a b", " a", "é", "p:a", "a\n", "{}a", "{u}", "{u", "u}a", "{u v}a", "{u}1", "{{u}}a", "{<}a", "\xff", "a\xff", "{\xff}a", "{\xc3}a",
		n, "{u}" + n, "{" + s[:46] + "}a", "{" + s[:45] + "}ab", s,
	} {
		checkName(t, text, false)
	}
	for text := range texts.Short("{}a1:\xc3\xa9", 5) {
		_, _, ok := names.Cut(text)
		checkName(t, text, ok)
	}
}

// TestKeyNeedsNoName holds that keys are texts, which need not be names.
func TestKeyNeedsNoName(t *testing.T) {
	c := after(t, object)
	for _, text := range []string{"", " ", "1", "a b", "{}", "{u}a", "é", "\x00"} {
		checkStep(t, c, key(text), api.OK)
		checkStep(t, c, scalar, api.OK)
		checkStep(t, c, key(text), api.ErrTwice)
	}
}

// TestAttrBoth holds that an Attr needs both a name and a valid text.
func TestAttrBoth(t *testing.T) {
	c := events.New()
	checkStep(t, c, elem, api.OK)
	for _, x := range []api.Event{ev(api.Attr), ev(api.Attr, "", "v"), ev(api.Attr, "1", "\xff"), ev(api.Attr, "a", "\xff"), ev(api.Attr, "a", strings.Repeat("v", 49))} {
		checkStep(t, c, x, api.ErrEvents)
	}
	checkStep(t, c, ev(api.Attr, "a", strings.Repeat("v", 48)), api.OK)
}
