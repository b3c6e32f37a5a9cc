package anchors_test

import (
	"math/rand"
	"slices"
	"strings"
	"testing"

	"hexapla/anchors"
	"hexapla/api"
	"hexapla/checks"
	"hexapla/events"
	"hexapla/names"
	"hexapla/texts"
)

// history is a model of an Anchors: it keeps which calls were accepted, and asks
// them each time what is stored.
type history struct {
	l    []api.Event    // all that were stored
	from map[string]int // of each name: how many events were stored ahead of it
	told int
}

// under returns the events stored under a name, and whether it is known: those
// behind its opening, up to where they are a document.
func (h *history) under(name string) ([]api.Event, bool) {
	l := h.l[h.from[name]:]
	for n := range len(l) {
		if _, e := events.Whole(l[:n+1]); e == api.OK {
			return l[:n+1], true
		}
	}
	return l, false
}

func (h *history) size() int {
	sum := 0
	for name := range h.from {
		l, _ := h.under(name)
		sum += len(name) + cost(l...)
	}
	return sum
}

func (h *history) open(name string) api.Errno {
	if !names.Local(name) {
		return api.ErrArg
	}
	if _, there := h.from[name]; there {
		return api.ErrTwice
	}
	h.from[name] = len(h.l)
	if h.size() > 200 {
		delete(h.from, name)
		return api.ErrAnchorSpace
	}
	return api.OK
}

func (h *history) step(x api.Event) api.Errno {
	open := false
	for name := range h.from {
		l, known := h.under(name)
		if known {
			continue
		}
		open = true
		if n, _ := events.Whole(append(slices.Clone(l), x)); n <= len(l) {
			return api.ErrEvents
		}
	}
	if !open {
		return api.OK
	}
	h.l = append(h.l, x)
	if h.size() > 200 {
		h.l = h.l[:len(h.l)-1]
		return api.ErrAnchorSpace
	}
	return api.OK
}

func (h *history) get(name string) ([]api.Event, api.Errno) {
	if _, there := h.from[name]; !there {
		return nil, api.ErrAnchor
	}
	l, known := h.under(name)
	if !known {
		return nil, api.ErrAnchor
	}
	if h.told+len(l) > 40 {
		return nil, api.ErrExpand
	}
	h.told += len(l)
	return l, api.OK
}

// both is an Anchors and its model, and the calls of both.
type both struct {
	*anchors.Anchors
	model history
	calls []string
}

func newBoth() *both {
	return &both{Anchors: anchors.New(), model: history{from: map[string]int{}}}
}

// call makes one call of both: "+a" opens a, "=a" gets it, and else an event is
// stored. It returns the error.
func (b *both) call(t *testing.T, call string) api.Errno {
	t.Helper()
	b.calls = append(b.calls, call)
	var got, want []api.Event
	var e, wantErr api.Errno
	switch name := call[1:]; call[0] {
	case '+':
		e, wantErr = b.Open(name), b.model.open(name)
	case '=':
		got, e = b.Get(name)
		want, wantErr = b.model.get(name)
	default:
		x := checks.Events(call)[0]
		e, wantErr = b.Step(x), b.model.step(x)
	}
	if e != wantErr || !slices.Equal(got, want) || b.Size() != b.model.size() || b.Told() != b.model.told {
		t.Fatalf("%s: %s, %v, size %d, told %d, not %s, %v, %d, %d", strings.Join(b.calls, ", "),
			checks.Written(got), e, b.Size(), b.Told(), checks.Written(want), wantErr, b.model.size(), b.model.told)
	}
	return e
}

// checkAll makes all rows of at most n calls, behind those made ahead of each.
func checkAll(t *testing.T, n int, ahead []string, calls ...string) {
	t.Helper()
	for row := range texts.Lists(n, calls...) {
		b := newBoth()
		for _, call := range slices.Concat(ahead, row) {
			b.call(t, call)
		}
	}
}

func TestAllCalls(t *testing.T) {
	checkAll(t, 5, nil, "+a", "+b", "null", "[", "]", `"x"`, "=a", "=b")
	checkAll(t, 4, []string{"+c", "{", `"k":`}, "+b", "+a", "{", `"k":`, "1", "}", "=a")
	checkAll(t, 4, []string{"+c", "<e"}, "+b", "+a", "<e", `@a="v"`, `"x"`, ">", "=a")
}

// random returns a call, which gets something as often as the number says.
func random(r *rand.Rand, gets int) string {
	name := letters[r.Intn(4)]
	if r.Intn(6) == 0 {
		name += strings.Repeat("n", r.Intn(18))
	}
	switch n := r.Intn(14 + gets); {
	case n >= 14:
		return "=" + name
	case n >= 10:
		return "+" + name
	case n == 9:
		return `"` + strings.Repeat("k", r.Intn(3)) + `":`
	case n == 8:
		return "@" + letters[r.Intn(3)] + "=" + word(r.Intn(4))
	case n == 7:
		return word(r.Intn(52) * r.Intn(2))
	}
	return strings.Fields(`null 1 [ ] ] { } <e <f > > ?4"x""v"`)[r.Intn(12)]
}

// TestRandomCalls goes on for long enough to meet the limits.
func TestRandomCalls(t *testing.T) {
	r := rand.New(rand.NewSource(10))
	met := map[string]int{}
	for i := range 1000 {
		b := newBoth()
		for range 150 {
			call := random(r, 1+i%30)
			e := b.call(t, call)
			kind := call[:1]
			if !strings.Contains("+=", kind) {
				kind = "."
			}
			met[kind+e.Error()]++
		}
	}
	for _, l := range []struct {
		kind string
		errs []api.Errno
	}{
		{"+", []api.Errno{api.OK, api.ErrArg, api.ErrTwice, api.ErrAnchorSpace}},
		{".", []api.Errno{api.OK, api.ErrEvents, api.ErrAnchorSpace}},
		{"=", []api.Errno{api.OK, api.ErrAnchor, api.ErrExpand}},
	} {
		for _, e := range l.errs {
			if met[l.kind+e.Error()] < 100 {
				t.Errorf("%s %v: %d times", l.kind, e, met[l.kind+e.Error()])
			}
		}
	}
}
