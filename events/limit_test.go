package events_test

import (
	"strconv"
	"testing"

	"hexapla/api"
	"hexapla/events"
)

// nested returns events that leave n parts open, of which the innermost ones
// are what last begins; those around it are lists, or elements for an element
// within an element.
func nested(n int, around, last api.Event) []api.Event {
	var l []api.Event
	for range n - 1 {
		l = append(l, around)
	}
	return append(l, last)
}

func TestDepth(t *testing.T) {
	for _, around := range []api.Event{list, elem} {
		for n := range 6 {
			for _, last := range []api.Event{list, object, elem} {
				if around == elem && last != elem {
					continue
				}
				c := after(t, nested(n+1, around, last)...)
				checkAsked(t, c, n+1, false)
			}
		}
	}
	c := after(t, nested(6, list, list)...)
	for _, x := range []api.Event{list, object, elem} {
		checkStep(t, c, x, api.ErrDepth)
		checkAsked(t, c, 6, false)
	}
	checkStep(t, c, text, api.OK) // what opens nothing may stand there
	checkStep(t, c, endList, api.OK)
	for _, x := range []api.Event{list, endList, object, endMap, elem, endElem} {
		checkStep(t, c, x, api.OK) // the sixth again, one after the other
	}
	checkAsked(t, c, 5, false)
	for range 5 {
		checkStep(t, c, endList, api.OK)
	}
	checkAsked(t, c, 0, true)
}

// TestDepthOfMaps holds the depth of maps and of elements in one another.
func TestDepthOfMaps(t *testing.T) {
	c := events.New()
	for n := range 6 {
		checkStep(t, c, object, api.OK)
		checkAsked(t, c, n+1, false)
		checkStep(t, c, key("a"), api.OK)
		checkAsked(t, c, n+1, false)
	}
	for _, x := range []api.Event{object, list, elem, object} {
		checkStep(t, c, x, api.ErrDepth)
	}
	checkStep(t, c, key("b"), api.ErrEvents) // the value still must stand here
	checkStep(t, c, scalar, api.OK)
	checkStep(t, c, endMap, api.OK)
	checkAsked(t, c, 5, false)
	checkStep(t, c, key("b"), api.OK)
	checkStep(t, c, object, api.OK)
	checkAsked(t, c, 6, false)

	c = after(t, nested(6, elem, elem)...)
	checkStep(t, c, attr("a"), api.OK)
	checkStep(t, c, elem, api.ErrDepth)
	checkStep(t, c, attr("b"), api.OK) // no contents have begun
	checkStep(t, c, text, api.OK)
	checkStep(t, c, elem, api.ErrDepth)
	checkStep(t, c, text, api.ErrEvents) // nothing stands in between
	checkStep(t, c, endElem, api.OK)
	checkStep(t, c, text, api.OK)
	checkStep(t, c, elem, api.OK)
}

// filled returns a Check with a map, or an element, of n fields or attributes.
func filled(t *testing.T, kind, n int) *events.Check {
	t.Helper()
	if kind == api.Key {
		c := after(t, object)
		for i := range n {
			checkStep(t, c, key("k"+strconv.Itoa(i)), api.OK)
			checkStep(t, c, scalar, api.OK)
		}
		return c
	}
	c := after(t, elem)
	for i := range n {
		checkStep(t, c, attr("k"+strconv.Itoa(i)), api.OK)
	}
	return c
}

func TestFields(t *testing.T) {
	for _, kind := range []int{api.Key, api.Attr} {
		end := endMap
		if kind == api.Attr {
			end = endElem
		}
		for n := range 11 {
			c := filled(t, kind, n)
			for i := range n { // each of those there, first, middle and last
				checkStep(t, c, ev(kind, "k"+strconv.Itoa(i)), api.ErrTwice)
			}
			if n == 10 {
				checkStep(t, c, ev(kind, "k"), api.ErrFields)
				checkStep(t, c, ev(kind, "k10"), api.ErrFields)
				checkStep(t, c, ev(kind, "k0"), api.ErrTwice)
			}
			checkAsked(t, c, 1, false)
			checkStep(t, c, end, api.OK)
			checkAsked(t, c, 0, true)
		}
	}
}

// TestFieldsBegin holds that each map and each element has its own fields.
func TestFieldsBegin(t *testing.T) {
	c := after(t, object, key("a"), object)
	for i := range 10 {
		checkStep(t, c, key(string(rune('a'+i))), api.OK)
		checkStep(t, c, scalar, api.OK)
	}
	checkStep(t, c, key("z"), api.ErrFields)
	checkStep(t, c, endMap, api.OK)
	checkStep(t, c, key("a"), api.ErrTwice) // the outer ones again
	for i := range 9 {
		checkStep(t, c, key(string(rune('b'+i))), api.OK)
		checkStep(t, c, object, api.OK) // a new one at the same depth
		checkStep(t, c, key("a"), api.OK)
		checkStep(t, c, scalar, api.OK)
		checkStep(t, c, endMap, api.OK)
	}
	checkStep(t, c, key("z"), api.ErrFields)
	checkStep(t, c, endMap, api.OK)
	checkAsked(t, c, 0, true)

	c = after(t, elem, attr("a"), attr("b"), elem, attr("a"), elem, attr("a"), attr("b"))
	checkStep(t, c, attr("b"), api.ErrTwice)
	for _, x := range []api.Event{endElem, elem, attr("a"), endElem, endElem, elem, attr("a"), attr("b"), endElem, endElem} {
		checkStep(t, c, x, api.OK)
	}
	checkAsked(t, c, 0, true)

	c = after(t, object, key("a"), elem, attr("a"), endElem, key("b"), elem, attr("a"), endElem)
	checkStep(t, c, key("a"), api.ErrTwice) // neither hides the other's
	checkStep(t, c, endMap, api.OK)
}

// TestSameFields holds which keys and attributes are the same.
func TestSameFields(t *testing.T) {
	c := after(t, object)
	for _, text := range []string{"", "a", "A", "a ", "é", "e\u0301", "1", "01"} {
		checkStep(t, c, key(text), api.OK)
		checkStep(t, c, scalar, api.OK)
	}
	for _, text := range []string{"", "a", "A", "a ", "é", "e\u0301", "1", "01"} {
		checkStep(t, c, key(text), api.ErrTwice)
	}
	c = after(t, elem)
	for _, name := range []string{"a", "{u}a", "{v}a", "b", "A", "e"} {
		checkStep(t, c, ev(api.Attr, name, "v"), api.OK)
		checkStep(t, c, ev(api.Attr, name, "v"), api.ErrTwice)
		checkStep(t, c, ev(api.Attr, name, "w"), api.ErrTwice) // whatever its Val
	}
}

// TestFirstError holds which of several errors is told.
func TestFirstError(t *testing.T) {
	deep := nested(6, list, list)
	fields := func() *events.Check { return filled(t, api.Key, 10) }
	attrs := func() *events.Check { return filled(t, api.Attr, 10) }
	for i, l := range []struct {
		c    *events.Check
		x    api.Event
		want api.Errno
	}{
		{after(t, deep...), list, api.ErrDepth}, {after(t, deep...), elem, api.ErrDepth},
		{after(t, deep...), ev(api.List, "x"), api.ErrEvents}, {after(t, deep...), ev(api.Map, "", "v"), api.ErrEvents},
		{after(t, deep...), ev(api.Elem, "1"), api.ErrEvents}, {after(t, deep...), ev(api.Elem, "e", "v"), api.ErrEvents},
		{after(t, nested(6, list, object)...), list, api.ErrEvents}, // a key must stand here
		{after(t, nested(6, list, elem)...), list, api.ErrEvents}, {after(t, nested(6, list, elem)...), object, api.ErrEvents},
		{after(t, nested(6, list, elem)...), elem, api.ErrDepth},
		{fields(), key("k0"), api.ErrTwice}, {fields(), key("z"), api.ErrFields},
		{fields(), key("\xff"), api.ErrEvents}, {fields(), ev(api.Key, "k0", "v"), api.ErrEvents}, {fields(), ev(api.Key, "z", "v"), api.ErrEvents},
		{fields(), attr("k0"), api.ErrEvents}, {fields(), scalar, api.ErrEvents},
		{attrs(), attr("k0"), api.ErrTwice}, {attrs(), attr("z"), api.ErrFields},
		{attrs(), attr("1"), api.ErrEvents}, {attrs(), ev(api.Attr, "k0", "\xff"), api.ErrEvents}, {attrs(), ev(api.Attr, "z", "\xff"), api.ErrEvents},
		{attrs(), key("k0"), api.ErrEvents}, {attrs(), ev(api.Text, ""), api.ErrEvents},
		{filled(t, api.Key, 3), ev(api.Key, "k1", "v"), api.ErrEvents}, {filled(t, api.Attr, 3), ev(api.Attr, "k1", "\xff"), api.ErrEvents},
	} {
		if e := l.c.Step(l.x); e != l.want {
			t.Errorf("%d: %v: %v, not %v", i, l.x, e, l.want)
		}
	}
	c := fields() // a key where a value must stand
	checkStep(t, c, endMap, api.OK)
	checkStep(t, c, key("k0"), api.ErrEvents)
	c = after(t, object, key("a"))
	checkStep(t, c, key("a"), api.ErrEvents)
	c = attrs() // attributes behind contents
	checkStep(t, c, text, api.OK)
	checkStep(t, c, attr("k0"), api.ErrEvents)
	checkStep(t, c, attr("z"), api.ErrEvents)
}
