package entities_test

import (
	"strings"
	"testing"

	"hexapla/api"
	"hexapla/entities"
)

// rig is an Entities whose answers are held.
type rig struct {
	t *testing.T
	*entities.Entities
}

func newRig(t *testing.T) rig { return rig{t, entities.New()} }

// defines holds that an entity is defined.
func (r rig) defines(name, text string) {
	r.t.Helper()
	size, told := r.Size(), r.Told()
	if e := r.Define(name, text); e != api.OK {
		r.t.Errorf("Define(%q, %q): %v", name, text, e)
	}
	r.asked(size+len(name)+len(text), told)
}

// shuts holds the error with which an entity is not defined.
func (r rig) shuts(want api.Errno, name, text string) {
	r.t.Helper()
	size, told := r.Size(), r.Told()
	if e := r.Define(name, text); e != want {
		r.t.Errorf("Define(%q, %q): %v, not %v", name, text, e, want)
	}
	r.asked(size, told)
}

// gets holds the text of an entity, and that it counts.
func (r rig) gets(name, want string) {
	r.t.Helper()
	r.counts(1, name, want)
}

// counts holds the text of an entity, and for how many texts it counts.
func (r rig) counts(n int, name, want string) {
	r.t.Helper()
	size, told := r.Size(), r.Told()
	if text, e := r.Get(name); text != want || e != api.OK {
		r.t.Errorf("Get(%q): %q %v, not %q", name, text, e, want)
	}
	r.asked(size, told+n)
}

// lacks holds the error with which nothing is got of some names.
func (r rig) lacks(want api.Errno, names ...string) {
	r.t.Helper()
	for _, name := range names {
		size, told := r.Size(), r.Told()
		if text, e := r.Get(name); text != "" || e != want {
			r.t.Errorf("Get(%q): %q %v, not %v", name, text, e, want)
		}
		r.asked(size, told)
	}
}

// fills holds what a text is expanded to, and how many texts that counts.
func (r rig) fills(n int, raw, want string) {
	r.t.Helper()
	size, told := r.Size(), r.Told()
	if text, e, off := r.Fill(raw); text != want || e != api.OK || off != len(raw) {
		r.t.Errorf("Fill(%q): %q %v %d, not %q", raw, text, e, off, want)
	}
	r.asked(size, told+n)
}

// stops holds the error with which a text is not expanded, where it is met, and
// how many texts are counted ahead of it.
func (r rig) stops(n int, raw string, want api.Errno, wantOff int) {
	r.t.Helper()
	size, told := r.Size(), r.Told()
	if text, e, off := r.Fill(raw); text != "" || e != want || off != wantOff {
		r.t.Errorf("Fill(%q): %q %v %d, not %v %d", raw, text, e, off, want, wantOff)
	}
	r.asked(size, told+n)
}

// asked holds what Size and Told answer.
func (r rig) asked(size, told int) {
	r.t.Helper()
	if r.Size() != size || r.Told() != told {
		r.t.Errorf("size %d, told %d, not %d, %d", r.Size(), r.Told(), size, told)
	}
}

// tells lets n texts be counted, by an entity a.
func (r rig) tells(n int, a string) {
	r.t.Helper()
	for range n {
		r.gets("a", a)
	}
}

// predefined are the names of the predefined entities.
var predefined = []string{"lt", "gt", "amp", "quot"}

// keepsPredefined holds that these are as they always are.
func (r rig) keepsPredefined() {
	r.t.Helper()
	for i, name := range predefined {
		r.counts(0, name, `<>&"`[i:i+1])
	}
	r.fills(0, "&lt;&gt;&amp;&quot;", `<>&"`)
}

// long is 1000 letters.
var long = strings.Repeat("n", 1000)
