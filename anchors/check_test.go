package anchors_test

import (
	"slices"
	"strings"
	"testing"

	"hexapla/anchors"
	"hexapla/api"
	"hexapla/checks"
)

// rig is an Anchors whose answers are held. Events are written as by
// checks.Written.
type rig struct {
	t *testing.T
	*anchors.Anchors
}

func newRig(t *testing.T) rig { return rig{t, anchors.New()} }

// opens holds that names are opened, one by one, each of which counts its bytes.
func (r rig) opens(names ...string) {
	r.t.Helper()
	for _, name := range names {
		size, told := r.Size(), r.Told()
		if e := r.Open(name); e != api.OK {
			r.t.Errorf("Open(%q): %v", name, e)
		}
		r.asked(size+len(name), told)
	}
}

// shuts holds the error with which each of some names is not opened.
func (r rig) shuts(want api.Errno, names ...string) {
	r.t.Helper()
	for _, name := range names {
		size, told := r.Size(), r.Told()
		if e := r.Open(name); e != want {
			r.t.Errorf("Open(%q): %v, not %v", name, e, want)
		}
		r.asked(size, told)
	}
}

// steps holds that events are stored, one by one, under n open names.
func (r rig) steps(n int, written string) {
	r.t.Helper()
	for _, x := range checks.Events(written) {
		size, told := r.Size(), r.Told()
		if e := r.Step(x); e != api.OK {
			r.t.Errorf("Step(%v): %v", x, e)
		}
		r.asked(size+n*cost(x), told)
	}
}

// cost returns the size of some events.
func cost(l ...api.Event) int {
	sum := 0
	for _, x := range l {
		sum += len(x.Text) + len(x.Val) + 1
	}
	return sum
}

// refuses holds the error with which each of some events is refused.
func (r rig) refuses(want api.Errno, written string) {
	r.t.Helper()
	for _, x := range checks.Events(written) {
		size, told := r.Size(), r.Told()
		if e := r.Step(x); e != want {
			r.t.Errorf("Step(%v): %v, not %v", x, e, want)
		}
		r.asked(size, told)
	}
}

// gets holds what is stored under a name.
func (r rig) gets(name string, written ...string) {
	r.t.Helper()
	want := checks.Events(strings.Join(written, " "))
	size, told := r.Size(), r.Told()
	if l, e := r.Get(name); e != api.OK || !slices.Equal(l, want) {
		r.t.Errorf("Get(%q): %s, %v, not %s", name, checks.Written(l), e, checks.Written(want))
	}
	r.asked(size, told+len(want))
}

// lacks holds the error with which nothing is got of some names.
func (r rig) lacks(want api.Errno, names ...string) {
	r.t.Helper()
	for _, name := range names {
		size, told := r.Size(), r.Told()
		if l, e := r.Get(name); e != want || len(l) > 0 {
			r.t.Errorf("Get(%q): %v, %v, not %v", name, l, e, want)
		}
		r.asked(size, told)
	}
}

// asked holds what Size and Told answer.
func (r rig) asked(size, told int) {
	r.t.Helper()
	if r.Size() != size || r.Told() != told {
		r.t.Errorf("size %d, told %d, not %d, %d", r.Size(), r.Told(), size, told)
	}
}

// times returns n events that are written so.
func times(n int, written string) string { return strings.Repeat(written+" ", n) }

// word returns how a Text of n bytes is written.
func word(n int) string { return `"` + strings.Repeat("x", n) + `"` }

// anything are events that no document has, or has anywhere but at its begin.
const anything = `?0"""" ?99"""" ?-1"""" ?1"x""" ?4"\xff""" ?3"10""" ?11"1""" ] } > "a": @a="v"`

// letters are names of one byte.
var letters = strings.Split("abcdefghijklmnopqrstuvwxyzABCDEFGHIJKLMNOPQRSTUVWXYZ_", "")
