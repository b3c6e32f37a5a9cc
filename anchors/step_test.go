package anchors_test

import (
	"strings"
	"testing"

	"hexapla/api"
	"hexapla/checks"
	"hexapla/events"
)

func TestExamples(t *testing.T) {
	r := newRig(t)
	r.opens("a")
	r.steps(1, "1")
	r.gets("a", "1")
	r.asked(3, 1)

	r = newRig(t)
	r.opens("b")
	r.steps(1, "[")
	r.lacks(api.ErrAnchor, "b")
	r.opens("c")
	r.steps(2, "null")
	r.steps(1, "]")
	r.gets("b", "[ null ]")
	r.gets("c", "null")

	r = newRig(t)
	r.opens("a")
	r.shuts(api.ErrTwice, "a")
	r.shuts(api.ErrArg, "1")
}

// values are documents, each of one value.
var values = []string{
	"null", "true", "false", "0", "-15e-1", "1e999", `""`, `"x"`, `"é"`, word(48), "[ ]", `[ 1 [ "x" ] { } ]`,
	"{ }", `{ "": null "k": [ ] }`, `{ "a": { "b": { "c": { "d": { "e": { } } } } } }`, "<e >", `<{u}e @a="" @{u}b="vw" "x" <f > "y" >`, "[ [ [ [ [ [ ] ] ] ] ] ]",
}

// TestValues holds that a name is known once a document is stored, not before
// and not later.
func TestValues(t *testing.T) {
	for _, value := range values {
		r := newRig(t)
		r.opens("a")
		for _, word := range strings.Fields(value) {
			r.lacks(api.ErrAnchor, "a")
			r.steps(1, word)
		}
		r.gets("a", value)
		r.steps(0, "null ] "+anything) // no name is open any more
		r.gets("a", value)
		r.opens("b")
		r.lacks(api.ErrAnchor, "b")
		r.steps(1, "true")
		r.gets("b", "true")
	}
}

// depth returns how many parts of a value are open at most.
func depth(value string) int {
	c, most := events.New(), 0
	for _, x := range checks.Events(value) {
		c.Step(x)
		most = max(most, c.Depth())
	}
	return most
}

// TestKnown holds that a name becomes known while others stay open.
func TestKnown(t *testing.T) {
	for _, value := range values {
		if depth(value) == 6 {
			continue // one part too many for the outer name
		}
		r := newRig(t)
		r.opens("outer")
		r.steps(1, "[")
		r.opens("inner")
		r.steps(2, value)
		r.gets("inner", value)
		r.lacks(api.ErrAnchor, "outer")
		r.steps(1, "null ]")
		r.gets("inner", value)
		r.gets("outer", "[", value, "null ]")
	}
}

// TestWithin opens names within one another, up to all that may be open.
func TestWithin(t *testing.T) {
	r := newRig(t)
	r.opens("m")
	r.steps(1, `{ "k":`)
	r.opens("e") // in the order of the names, it comes first
	r.steps(2, `<e @a="v" "x"`)
	r.opens("z")
	r.steps(3, `<f`)
	r.lacks(api.ErrAnchor, "m", "e", "z")
	r.steps(3, ">")
	r.gets("z", "<f >")
	r.lacks(api.ErrAnchor, "m", "e")
	r.opens("a")
	r.steps(3, "<f >")
	r.gets("a", "<f >")
	r.steps(2, `"y" >`)
	r.gets("e", `<e @a="v" "x" <f > <f > "y" >`)
	r.lacks(api.ErrAnchor, "m")
	r.opens("q")
	r.refuses(api.ErrEvents, `"l": }`) // q wants a value
	r.refuses(api.ErrEvents, "null")   // m wants none
	r.asked(46, 13)
}

// TestDeepest opens a name within each list of six in one another.
func TestDeepest(t *testing.T) {
	for _, names := range []string{"abcdef", "fedcba"} {
		names := strings.Split(names, "")
		r := newRig(t)
		for i, name := range names {
			r.opens(name)
			r.steps(i+1, "[")
		}
		r.asked(27, 0)
		r.steps(6, "1")
		for n := 6; n > 0; n-- {
			r.lacks(api.ErrAnchor, names[:n]...)
			r.steps(n, "]")
		}
		for n := 1; n < 6; n++ {
			r.gets(names[6-n], times(n, "["), "1", times(n, "]"))
		}
		r.asked(60, 35)
	}
}

// TestAtOnce holds that names may become known with the same event.
func TestAtOnce(t *testing.T) {
	for _, value := range []string{"null", "[ 1 ]", `{ "k": "x" }`, `<e @a="v" >`} {
		r := newRig(t)
		r.opens("b", "a", "c")
		for _, word := range strings.Fields(value) {
			r.lacks(api.ErrAnchor, "a", "b", "c")
			r.steps(3, word)
		}
		r.gets("c", value)
		r.gets("a", value)
		r.gets("b", value)
		r.steps(0, "null")
	}
}

// TestSizes holds how much each event counts: its Text, its Val and one more.
func TestSizes(t *testing.T) {
	type sized struct {
		event string
		size  int
	}
	holds := func(r rig, l ...sized) {
		t.Helper()
		for _, x := range l {
			r.steps(1, x.event)
			r.asked(x.size, 0)
		}
	}
	r := newRig(t)
	r.opens("name")
	holds(r, sized{"<{u}e", 9}, sized{`@a="v"`, 12}, sized{`@{u}a=""`, 17}, sized{`@b="é€"`, 24}, sized{`"x"`, 26}, sized{"<e", 28}, sized{">", 29}, sized{`"é"`, 32}, sized{">", 33})
	r.opens("n")
	holds(r, sized{"[", 35}, sized{"null", 36}, sized{"true", 41}, sized{"false", 47}, sized{"1e1", 51}, sized{`""`, 52}, sized{`"abc"`, 56})
	holds(r, sized{"{", 57}, sized{`"":`, 58}, sized{"[", 59}, sized{"]", 60}, sized{`"key":`, 64}, sized{"0", 66}, sized{"}", 67}, sized{"]", 68})
	r.gets("name", `<{u}e @a="v" @{u}a="" @b="é€" "x" <e > "é" >`)
	r.gets("n", `[ null true false 1e1 "" "abc" { "": [ ] "key": 0 } ]`)
}
