package anchors_test

import (
	"testing"

	"hexapla/api"
	"hexapla/checks"
)

// crowded returns an Anchors with a known name of pad bytes, and n open names
// in whose lists the size has come as far as Texts of 48 bytes bring it. It
// returns how many bytes are left.
func crowded(t *testing.T, pad, n int) (rig, int) {
	t.Helper()
	r := newRig(t)
	r.opens(long(52, pad))
	r.steps(1, "null")
	r.opens(letters[:n]...)
	r.steps(n, "[")
	for 200-r.Size() >= 49*n {
		r.steps(n, word(48))
	}
	return r, 200 - r.Size()
}

// TestEventSpace holds which event is the last that may be stored, under one
// and more open names, each of which counts it.
func TestEventSpace(t *testing.T) {
	met := map[int]int{}
	for n := 1; n <= 8; n++ {
		for pad := 2; pad <= 16; pad++ {
			for length := range 49 {
				r, left := crowded(t, pad, n)
				over := n*(length+1) - left
				met[over]++
				if over <= 0 {
					r.steps(n, word(length))
				} else {
					r.refuses(api.ErrAnchorSpace, times(2, word(length)))
					r.lacks(api.ErrAnchor, letters[:n]...)
				}
				for 200-r.Size() >= n {
					r.steps(n, "null") // shorter ones go on to fit
				}
				r.refuses(api.ErrAnchorSpace, "null 1 [ ]")
			}
		}
	}
	for over := -1; over <= 1; over++ { // a size of 199, 200 and 201
		if met[over] < 20 {
			t.Errorf("%d: %d times", over, met[over])
		}
	}
}

// padding returns the value of a in filledTo.
func padding(left int, ahead string) string {
	return "[ " + times(3, word(48)) + word(48-cost(checks.Events(ahead)...)-left) + " ]"
}

// filledTo returns an Anchors with a known name a, and with an open name b with
// these events, in which left bytes are left.
func filledTo(t *testing.T, left int, ahead string) rig {
	t.Helper()
	r := newRig(t)
	r.opens("a")
	r.steps(1, padding(left, ahead))
	r.opens("b")
	r.steps(1, ahead)
	r.asked(200-left, 0)
	return r
}

// TestKindSpace holds that the Text and the Val of all kinds count.
func TestKindSpace(t *testing.T) {
	for _, l := range []struct {
		ahead, event string
		cost         int
	}{
		{"[", "null", 1}, {"[", "true", 5}, {"[", "false", 6}, {"[", "-15e-1", 7}, {"[", `""`, 1}, {"[", `"é"`, 3}, {"[", "[", 1}, {"[", "]", 1}, {"[", "{", 1}, {"[", "<e", 2}, {"[", "<{u}e", 5},
		{"{", `"":`, 1}, {"{", `"key":`, 4}, {"{", "}", 1}, {"<e", `@a=""`, 2}, {"<e", `@{u}a="val"`, 8}, {"<e", `"x"`, 2}, {"<e", ">", 1}, {"", "null", 1}, {"", "[", 1}, {"", "false", 6},
	} {
		for left := range 12 {
			r := filledTo(t, left, l.ahead)
			if left < l.cost {
				r.refuses(api.ErrAnchorSpace, times(2, l.event))
				r.lacks(api.ErrAnchor, "b")
			} else {
				r.steps(1, l.event)
			}
			r.gets("a", padding(left, l.ahead))
		}
	}
}

// TestEndSpace holds that a name whose value can't end any more stays open.
func TestEndSpace(t *testing.T) {
	r := filledTo(t, 2, "[")
	r.steps(1, "[ ]")
	r.refuses(api.ErrAnchorSpace, "] null [")
	r.refuses(api.ErrEvents, "} > "+`"k":`)
	r.lacks(api.ErrAnchor, "b")
	r.shuts(api.ErrTwice, "a", "b")
	r.shuts(api.ErrAnchorSpace, "c")

	r = filledTo(t, 1, "[")
	r.steps(1, "]") // it ends with the last byte
	r.gets("b", "[ ]")
	r.steps(0, "null "+word(48)) // and nothing is stored any more
	r.shuts(api.ErrAnchorSpace, "c")
}

// TestEventsAheadOfSpace holds that an event that can't be stored anyway is
// told ahead of the space.
func TestEventsAheadOfSpace(t *testing.T) {
	for _, l := range []struct{ ahead, refused, fitsNot string }{
		{"[", "?4" + word(49) + `"" ?4` + word(500) + `"" ?4"x""v" ?99"x""v" "key": } >`, `"x" 1 <e`},
		{"", anything + ` ?3"10""" ?10"1"""`, `"x" 1 <e`},
		{"{", `"x" ?8"\xff""" @a="v"`, `"k":`},
		{`{ "k": null`, `"k": null`, `"l":`}, // ErrTwice
		{"<e", `"" null ?11"1""v"`, `@a="v" "x"`},
		{times(6, "["), "[ <e", `"x"`}, // ErrDepth
	} {
		for left := range 2 {
			r := filledTo(t, left, l.ahead)
			for range 2 {
				r.refuses(api.ErrEvents, l.refused)
				r.refuses(api.ErrAnchorSpace, l.fitsNot)
			}
		}
	}
	for _, names := range [][]string{{"x", "y"}, {"y", "x"}} { // one can't take it, and for none there is room
		r := filledTo(t, 3, "[")
		r.opens(names[0])
		r.refuses(api.ErrEvents, "] "+word(49))
		r.refuses(api.ErrAnchorSpace, `"x" 1`)
		r.steps(2, "null")
		r.gets(names[0], "null")
		r.refuses(api.ErrAnchorSpace, "] null")
		r.lacks(api.ErrAnchor, "b")
	}
}
