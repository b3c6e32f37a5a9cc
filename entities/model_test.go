package entities_test

import (
	"math/rand"
	"regexp"
	"slices"
	"strings"
	"testing"
	"unicode/utf8"

	"hexapla/api"
	"hexapla/entities"
	"hexapla/texts"
)

// A reference, and the longest beginning of one.
var (
	reference = regexp.MustCompile(`\A&([a-zA-Z_][a-zA-Z0-9_.-]{0,15});`)
	beginning = regexp.MustCompile(`\A&(?:[a-zA-Z_][a-zA-Z0-9_.-]{0,15})?`)
)

// history is a model of an Entities: it keeps the definitions that were accepted
// in their order, behind those of the predefined entities, and the names of all
// that was told.
type history struct {
	defined [][2]string
	told    []string
}

func newHistory() history {
	return history{defined: [][2]string{{"lt", "<"}, {"gt", ">"}, {"amp", "&"}, {"quot", `"`}}}
}

func (h *history) size() int {
	sum := 0
	for _, l := range h.defined[4:] {
		sum += len(l[0] + l[1])
	}
	return sum
}

// find returns at which place a name was defined, or -1.
func (h *history) find(name string) int {
	for i, l := range h.defined {
		if l[0] == name {
			return i
		}
	}
	return -1
}

func (h *history) define(name, text string) api.Errno {
	switch {
	case !reference.MatchString("&"+name+";") || strings.Contains(name, ";"):
		return api.ErrArg
	case !utf8.ValidString(text):
		return api.ErrUTF
	case h.find(name) >= 0:
		return api.ErrTwice
	case h.size()+len(name+text) > 200:
		return api.ErrEntitySpace
	}
	h.defined = append(h.defined, [2]string{name, text})
	return api.OK
}

func (h *history) get(name string) (string, api.Errno) {
	i := h.find(name)
	switch {
	case i < 0:
		return "", api.ErrEntity
	case i >= 4 && len(h.told) == 40:
		return "", api.ErrExpand
	case i >= 4:
		h.told = append(h.told, name)
	}
	return h.defined[i][1], api.OK
}

func (h *history) fill(raw string) (string, api.Errno, int) {
	out, done := "", 0
	for {
		i := strings.Index(raw[done:], "&")
		if i < 0 {
			return out + raw[done:], api.OK, len(raw)
		}
		out, done = out+raw[done:done+i], done+i
		found := reference.FindStringSubmatch(raw[done:])
		if found == nil {
			return "", api.ErrSyntax, done + len(beginning.FindString(raw[done:]))
		}
		text, e := h.get(found[1])
		if e != api.OK {
			return "", e, done + len(found[0]) - 1
		}
		out, done = out+text, done+len(found[0])
	}
}

// both is an Entities and its model.
type both struct {
	*entities.Entities
	model history
	calls []string
}

func newBoth() *both { return &both{Entities: entities.New(), model: newHistory()} }

// call makes one call of both: "a=x" defines, "*a" gets, and else a text is
// expanded. It returns the error.
func (b *both) call(t *testing.T, call string) api.Errno {
	t.Helper()
	b.calls = append(b.calls, call)
	var got, want string
	var e, wantErr api.Errno
	var off, wantOff int
	if name, text, is := strings.Cut(call, "="); is {
		e, wantErr = b.Define(name, text), b.model.define(name, text)
	} else if name, is := strings.CutPrefix(call, "*"); is {
		got, e = b.Get(name)
		want, wantErr = b.model.get(name)
	} else {
		got, e, off = b.Fill(call)
		want, wantErr, wantOff = b.model.fill(call)
	}
	if got != want || e != wantErr || off != wantOff || b.Size() != b.model.size() || b.Told() != len(b.model.told) {
		t.Fatalf("%q: %q, %v at %d, size %d, told %d, not %q, %v at %d, %d, %d", b.calls,
			got, e, off, b.Size(), b.Told(), want, wantErr, wantOff, b.model.size(), len(b.model.told))
	}
	return e
}

// TestAllRaw expands all short texts of some bytes and of some tokens.
func TestAllRaw(t *testing.T) {
	for raw := range texts.Short("&;a1:\xc3\xa9", 6) {
		checkRaw(t, raw)
	}
	for raw := range texts.Rows(5, "&", ";", "a", "lt", "b;", "&amp;", long[:15], "-", "é") {
		checkRaw(t, raw)
	}
}

func checkRaw(t *testing.T, raw string) {
	b := newBoth()
	for _, l := range []string{"a=&b;", "b=", "a1=\xc3\xa9", long[:15] + "=n", long[:15] + "-=m"} {
		b.call(t, l)
	}
	b.call(t, raw)
}

// TestAllCalls makes all short rows of some calls.
func TestAllCalls(t *testing.T) {
	checkAll(t, 4, nil, "a=x", "b=&a;", "a=y", "1=x", "lt=x", "*a", "*b", "*gt", "&a;&b;", "&a;&", "&b;&lt;")
	left := "c=" + long[:194] // for two more names with a byte each
	checkAll(t, 4, []string{left}, "a=x", "b=y", "aa=", "d=xyz", "d=\xff", "c=", "&a;&b;&aa;&d;")
	told := strings.Repeat("&c;", 37)
	checkAll(t, 5, []string{"c=z", told}, "a=x", "b=y", "*a", "*b", "*c", "&a;", "&b;&a;", "&lt;", "&a;&")
}

// checkAll makes all rows of at most n calls, behind those made ahead of each.
func checkAll(t *testing.T, n int, ahead []string, calls ...string) {
	t.Helper()
	for row := range texts.Lists(n, calls...) {
		b := newBoth()
		for _, call := range slices.Concat(ahead, row) {
			b.call(t, call)
		}
	}
}

// random returns a call, which defines something as often as the number says.
func random(r *rand.Rand, defines int) string {
	pick := func(l ...string) string { return l[r.Intn(len(l))] }
	name := func() string {
		return pick("a", "b", "c", "d", "lt", "amp", "a1", "aa", "_", pick("1", "", "a:", "é", "\xff", long[:17]), long[:1+r.Intn(17)])
	}
	piece := func() string {
		return pick("x", "&", ";", "é", "&"+name()+";", "&lt;", long[:r.Intn(40)], pick("\xc3", "\x80", " ", "<"))
	}
	switch n := r.Intn(10 + defines); {
	case n >= 10:
		return name() + "=" + strings.Repeat(piece(), r.Intn(3)) + strings.Repeat("z", r.Intn(60)*r.Intn(2))
	case n >= 5:
		return "*" + name()
	}
	out := ""
	for range r.Intn(8) {
		out += pick("1", ";", "é", "&lt;", pick("&", "\xff", "&"+name()), "&"+name()+";", "&"+name()+";", "&"+name()+";")
	}
	return out
}

// TestRandomCalls goes on for long enough to meet the limits.
func TestRandomCalls(t *testing.T) {
	r := rand.New(rand.NewSource(13))
	met := map[string]int{}
	for i := range 2000 {
		b := newBoth()
		for range 120 {
			call := random(r, 1+i%20)
			kind := "fill"
			if strings.Contains(call, "=") {
				kind = "define"
			} else if strings.HasPrefix(call, "*") {
				kind = "get"
			}
			met[kind+" "+b.call(t, call).Error()]++
		}
	}
	for _, l := range []struct {
		kind string
		errs []api.Errno
	}{
		{"define", []api.Errno{api.OK, api.ErrArg, api.ErrUTF, api.ErrTwice, api.ErrEntitySpace}},
		{"get", []api.Errno{api.OK, api.ErrEntity, api.ErrExpand}},
		{"fill", []api.Errno{api.OK, api.ErrSyntax, api.ErrEntity, api.ErrExpand}},
	} {
		for _, e := range l.errs {
			if met[l.kind+" "+e.Error()] < 200 {
				t.Errorf("%s, %v: %d times", l.kind, e, met[l.kind+" "+e.Error()])
			}
		}
	}
}
