package anchors_test

import (
	"fmt"
	"strings"
	"testing"

	"hexapla/api"
	"hexapla/names"
	"hexapla/texts"
)

// TestNothing holds an Anchors in which nothing is stored.
func TestNothing(t *testing.T) {
	r := newRig(t)
	r.asked(0, 0)
	r.lacks(api.ErrAnchor, "", "a", "1", "\xff", strings.Repeat("n", 300))
	r.steps(0, `null true 1 "x" [ ] { "k": null } <e @a="v" > `+anything)
	r.steps(0, word(49)+" "+word(500))
	r.lacks(api.ErrAnchor, "", "a")
	r.asked(0, 0)
	r.opens("a") // no event from before is stored
	r.steps(1, "1")
	r.gets("a", "1")
}

// noNames are texts that are no local names.
var noNames = texts.NoNames()

func TestNames(t *testing.T) {
	for _, name := range []string{"a", "Z", "_", "a1", "A1-._", "a-", "a.", "__", strings.Repeat("n", 16)} {
		r := newRig(t)
		r.opens(name)
		r.asked(len(name), 0)
		r.lacks(api.ErrAnchor, name)
		r.steps(1, "null")
		r.gets(name, "null")
	}
	r := newRig(t)
	r.shuts(api.ErrArg, noNames...)
	r.lacks(api.ErrAnchor, noNames...)
	r.steps(0, "null ]") // none of them is open
	r.lacks(api.ErrAnchor, noNames...)
	r.opens("a")
	r.shuts(api.ErrArg, noNames...)
	r.steps(1, "null")
	r.shuts(api.ErrArg, noNames...)
	r.gets("a", "null")
}

// TestAllNames holds all short texts of some bytes against names.Local.
func TestAllNames(t *testing.T) {
	for name := range texts.Short("aZ_09-.:{} \xc3\xa9", 4) {
		r := newRig(t)
		if names.Local(name) {
			r.opens(name)
		} else {
			r.shuts(api.ErrArg, name)
		}
	}
}

func TestTwice(t *testing.T) {
	r := newRig(t)
	r.opens("a")
	r.shuts(api.ErrTwice, "a", "a") // open, without events
	r.steps(1, "[")
	r.shuts(api.ErrTwice, "a") // open, with events
	r.opens("b", "A", "a1", "aa")
	r.shuts(api.ErrTwice, "a", "b", "A", "a1", "aa")
	r.steps(5, "null")
	r.shuts(api.ErrTwice, "a", "b", "A", "a1", "aa") // one open, the others known
	r.steps(1, "]")
	r.shuts(api.ErrTwice, "a", "b", "A", "a1", "aa") // known
	r.gets("a", "[ null ]")
	r.shuts(api.ErrTwice, "a") // got
	r.gets("a", "[ null ]")
	r.gets("A", "null")
	r.opens("c") // no refused call left a name open
	r.steps(1, "true")
	r.gets("c", "true")
	r.gets("a", "[ null ]")
}

// long returns the i-th name of n bytes, of which there are 53.
func long(i, n int) string { return letters[i] + strings.Repeat("n", n-1) }

// filled returns an Anchors with open names that fill size bytes.
func filled(t *testing.T, size int) rig {
	t.Helper()
	r := newRig(t)
	for i := 0; size > 0; i++ {
		r.opens(long(i, min(size, 16)))
		size -= min(size, 16)
	}
	return r
}

// TestNameSpace holds which name is the last that may be opened.
func TestNameSpace(t *testing.T) {
	for n := 1; n <= 16; n++ {
		for size := 180; size <= 200; size++ {
			r := filled(t, size)
			name := long(52, n)
			if size+n <= 200 {
				r.opens(name)
				r.shuts(api.ErrTwice, name)
				continue
			}
			r.shuts(api.ErrAnchorSpace, name, name)
			r.lacks(api.ErrAnchor, name)
			if size < 200 { // a shorter name goes on to fit
				r.opens(long(51, 200-size))
			}
		}
	}
}

// TestNameSpaceWithEvents holds that what is stored counts, under open and
// known names.
func TestNameSpaceWithEvents(t *testing.T) {
	for _, end := range []string{"", "]"} {
		r := newRig(t)
		r.opens("a")
		r.steps(1, "[ "+times(3, word(48)))
		r.steps(1, word(48-len(end)))
		r.steps(1, end)
		r.asked(198, 0)
		r.shuts(api.ErrAnchorSpace, "bbb", strings.Repeat("b", 16))
		r.opens("bb")
		r.asked(200, 0)
		r.shuts(api.ErrAnchorSpace, "c", "cc")
	}
}

// TestOpenFirstError holds that names that may not be opened anyway are told
// ahead of the space.
func TestOpenFirstError(t *testing.T) {
	r := newRig(t)
	r.opens("a")
	r.steps(1, "null")
	r.opens("b")
	r.steps(1, "[ "+times(3, word(48)))
	r.steps(1, word(46))
	r.asked(198, 0)
	r.opens("cc")
	r.shuts(api.ErrArg, noNames...)
	r.shuts(api.ErrTwice, "a", "b", "cc")
	r.shuts(api.ErrAnchorSpace, "d", "dd", strings.Repeat("d", 16))
	r.gets("a", "null")
}

// TestMany opens as many names as there may be.
func TestMany(t *testing.T) {
	r := newRig(t)
	for i := range 73 { // 53 of one byte, and others of two
		r.opens(fmt.Sprintf("%.2s", letters[i%53]+strings.Repeat("2", i/53)))
	}
	r.asked(93, 0)
	r.steps(73, "null")
	r.asked(166, 0)
	for i := range 40 {
		r.gets(letters[i], "null")
	}
	r.shuts(api.ErrTwice, append([]string{"a2", "t2"}, letters...)...)
	r.opens("u2")
}
