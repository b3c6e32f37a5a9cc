package events_test

import (
	"strings"
	"testing"

	"hexapla/api"
	"hexapla/events"
)

// ev returns an event of a kind, with its Text and its Val if there are any.
func ev(kind int, texts ...string) api.Event {
	x := api.Event{Kind: kind}
	if len(texts) > 0 {
		x.Text = texts[0]
	}
	if len(texts) > 1 {
		x.Val = texts[1]
	}
	return x
}

// Events whose Text and Val are allowed, a Bool among them for all scalars that
// are no Text.
var (
	scalar  = ev(api.Bool, "true")
	text    = ev(api.Text, "x")
	list    = ev(api.List)
	endList = ev(api.EndList)
	object  = ev(api.Map)
	endMap  = ev(api.EndMap)
	elem    = ev(api.Elem, "e")
	endElem = ev(api.EndElem)
)

func key(text string) api.Event { return ev(api.Key, text) }

func attr(name string) api.Event { return ev(api.Attr, name, "v") }

// checkStep holds the error with which an event is refused, or OK.
func checkStep(t *testing.T, c *events.Check, x api.Event, want api.Errno) {
	t.Helper()
	if e := c.Step(x); e != want {
		t.Errorf("%v: %v, not %v", x, e, want)
	}
}

// checkAsked holds how many parts are open, and whether all is a document.
func checkAsked(t *testing.T, c *events.Check, depth int, done bool) {
	t.Helper()
	if c.Depth() != depth || c.Done() != done {
		t.Errorf("depth %d, done %v, not %d, %v", c.Depth(), c.Done(), depth, done)
	}
}

// after returns a Check that has accepted events.
func after(t *testing.T, l ...api.Event) *events.Check {
	t.Helper()
	c := events.New()
	for _, x := range l {
		checkStep(t, c, x, api.OK)
	}
	return c
}

func TestNew(t *testing.T) {
	checkAsked(t, events.New(), 0, false)
	a, b := events.New(), events.New() // one goes on without the other
	checkStep(t, a, object, api.OK)
	checkStep(t, a, key("a"), api.OK)
	checkAsked(t, b, 0, false)
	checkStep(t, b, object, api.OK)
	checkStep(t, b, key("a"), api.OK)
	checkStep(t, a, scalar, api.OK)
	checkStep(t, a, endMap, api.OK)
	checkAsked(t, a, 0, true)
	checkAsked(t, b, 1, false)
	checkStep(t, b, scalar, api.OK)
	checkStep(t, b, key("a"), api.ErrTwice)
}

// TestDocuments goes through documents of each kind of value, and asks after
// each event, which is told with the depth that follows.
func TestDocuments(t *testing.T) {
	type step struct {
		x     api.Event
		depth int
	}
	for _, l := range [][]step{
		{{ev(api.Null), 0}}, {{ev(api.Bool, "true"), 0}}, {{ev(api.Bool, "false"), 0}}, {{ev(api.Number, "-15e-1"), 0}},
		{{text, 0}}, {{ev(api.Text, ""), 0}},
		{{list, 1}, {endList, 0}}, {{object, 1}, {endMap, 0}}, {{elem, 1}, {endElem, 0}},
		{{list, 1}, {ev(api.Null), 1}, {ev(api.Number, "0"), 1}, {text, 1}, {text, 1}, {ev(api.Text, ""), 1}, {scalar, 1}, {endList, 0}},
		{{list, 1}, {list, 2}, {endList, 1}, {object, 2}, {endMap, 1}, {elem, 2}, {endElem, 1}, {endList, 0}},
		{{object, 1}, {key("a"), 1}, {ev(api.Null), 1}, {key(""), 1}, {text, 1}, {key("A"), 1}, {ev(api.Text, ""), 1}, {endMap, 0}},
		{{object, 1}, {key("a"), 1}, {list, 2}, {endList, 1}, {key("b"), 1}, {object, 2}, {endMap, 1}, {key("c"), 1}, {elem, 2}, {endElem, 1}, {endMap, 0}},
		{{elem, 1}, {attr("a"), 1}, {ev(api.Attr, "b"), 1}, {ev(api.Attr, "{u}a", "é"), 1}, {endElem, 0}},
		{{elem, 1}, {text, 1}, {endElem, 0}}, {{elem, 1}, {attr("e"), 1}, {text, 1}, {endElem, 0}},
		{{elem, 1}, {text, 1}, {elem, 2}, {endElem, 1}, {text, 1}, {elem, 2}, {text, 2}, {endElem, 1}, {elem, 2}, {endElem, 1}, {text, 1}, {endElem, 0}},
	} {
		c := events.New()
		for i, s := range l {
			checkStep(t, c, s.x, api.OK)
			checkAsked(t, c, s.depth, i == len(l)-1)
		}
	}
}

// TestNothingChanges offers refused events and goes on as if there were none.
func TestNothingChanges(t *testing.T) {
	refused := []api.Event{
		{}, ev(99), ev(api.Null, "x"), ev(api.Text, "\xff"), ev(api.Key, "a", "v"), ev(api.Attr, "1", "v"), ev(api.Elem, ""),
		ev(api.Number, "10"), ev(api.EndMap, "x"), ev(api.EndList, "", "v"), ev(api.EndElem, "e"), ev(api.List, "x"), ev(api.Map, "x"),
	}
	c := events.New()
	for _, l := range []struct {
		x      api.Event
		refuse []api.Event // these too, behind x
	}{
		{list, []api.Event{endMap, endElem, key("a"), attr("a")}},
		{object, []api.Event{scalar, text, list, object, elem, attr("a"), endList, endElem}},
		{key("a"), []api.Event{key("b"), attr("a"), endMap, endList, endElem}},
		{elem, []api.Event{scalar, list, object, key("a"), endMap, endList, ev(api.Text, "")}},
		{attr("a"), []api.Event{attr("a"), ev(api.Attr, "a", "w"), scalar, list, object, key("a"), endMap, endList, ev(api.Text, "")}},
		{attr("b"), []api.Event{attr("a"), attr("b"), scalar, list, object, key("a"), endMap, endList, ev(api.Text, "")}},
		{text, []api.Event{text, ev(api.Text, "y"), ev(api.Text, ""), attr("a"), attr("c"), scalar, list, object, key("a"), endMap, endList}},
		{elem, []api.Event{scalar, list, object, key("a"), endMap, endList, ev(api.Text, "")}},
		{endElem, []api.Event{attr("c"), scalar, list, object, key("a"), endMap, endList, ev(api.Text, "")}},
		{text, []api.Event{text, attr("c"), scalar, list, object, key("a"), endMap, endList}},
		{endElem, []api.Event{key("a"), scalar, text, list, object, elem, attr("a"), endList, endElem}},
		{endMap, []api.Event{key("a"), key("b"), attr("a"), endMap, endElem}},
		{endList, []api.Event{scalar, text, list, object, elem, key("a"), attr("a"), endList, endMap, endElem}},
	} {
		checkStep(t, c, l.x, api.OK)
		depth, done := c.Depth(), c.Done()
		for range 2 {
			for _, x := range append(l.refuse, refused...) {
				if c.Step(x) == api.OK {
					t.Errorf("%v is taken behind %v", x, l.x)
				}
				checkAsked(t, c, depth, done)
			}
		}
	}
	checkAsked(t, c, 0, true)
}

// TestBehindDocument holds that nothing goes on behind a document.
func TestBehindDocument(t *testing.T) {
	for _, l := range [][]api.Event{
		{ev(api.Null)}, {scalar}, {ev(api.Number, "1")}, {text}, {ev(api.Text, "")}, {list, endList}, {object, endMap}, {elem, endElem},
		{object, key("a"), scalar, endMap}, {elem, attr("a"), text, endElem},
	} {
		c := after(t, l...)
		for _, x := range []api.Event{
			ev(api.Null), scalar, ev(api.Number, "1"), text, ev(api.Text, ""), list, endList, object, endMap, key("a"), key("b"), elem, endElem, attr("b"),
			{}, ev(-1), ev(13),
		} {
			checkStep(t, c, x, api.ErrEvents)
			checkAsked(t, c, 0, true)
		}
	}
}

// TestAhead offers each event as the first one.
func TestAhead(t *testing.T) {
	for _, x := range []api.Event{endList, endMap, endElem, key("a"), key(""), attr("a"), {}, ev(-1), ev(13), ev(1 << 40)} {
		c := events.New()
		checkStep(t, c, x, api.ErrEvents)
		checkAsked(t, c, 0, false)
		checkStep(t, c, scalar, api.OK)
		checkAsked(t, c, 0, true)
	}
}

// TestEnds holds that each End ends only what is open innermost.
func TestEnds(t *testing.T) {
	ends := []api.Event{endList, endMap, endElem}
	for i, begin := range []api.Event{list, object, elem} {
		for k, end := range ends {
			for _, outside := range [][]api.Event{nil, {list}, {object, key("a")}, {elem, elem}} {
				if begin != elem && len(outside) == 2 && outside[0] == elem {
					continue // elements hold only elements
				}
				c := after(t, append(outside, begin)...)
				want := api.ErrEvents
				if i == k {
					want = api.OK
				}
				checkStep(t, c, end, want)
			}
		}
	}
	checkStep(t, after(t, object, key("a")), endMap, api.ErrEvents) // the value is missing
}

// TestTexts holds where texts within an element may stand, and that others may
// be empty and follow each other.
func TestTexts(t *testing.T) {
	empty := ev(api.Text, "")
	for _, l := range []struct {
		ahead []api.Event
		x     api.Event
		want  api.Errno
	}{
		{[]api.Event{elem}, text, api.OK}, {[]api.Event{elem, attr("a")}, text, api.OK}, {[]api.Event{elem}, empty, api.ErrEvents},
		{[]api.Event{elem, text}, text, api.ErrEvents}, {[]api.Event{elem, text}, ev(api.Text, "y"), api.ErrEvents}, {[]api.Event{elem, text}, empty, api.ErrEvents},
		{[]api.Event{elem, text, elem}, text, api.OK}, {[]api.Event{elem, text, elem, endElem}, text, api.OK},
		{[]api.Event{elem, text, elem, text, endElem}, text, api.OK}, {[]api.Event{elem, text, elem, text, endElem, text}, text, api.ErrEvents},
		{[]api.Event{elem, elem, endElem}, text, api.OK}, {[]api.Event{elem, elem, endElem}, empty, api.ErrEvents},
		{[]api.Event{elem}, ev(api.Text, " "), api.OK}, {[]api.Event{elem}, ev(api.Text, "\n"), api.OK},
		{[]api.Event{list, text}, text, api.OK}, {[]api.Event{list, empty}, empty, api.OK}, {[]api.Event{list, elem, text, endElem}, text, api.OK},
		{[]api.Event{list, elem, endElem}, empty, api.OK}, {[]api.Event{object, key("a")}, empty, api.OK}, {nil, empty, api.OK},
		{[]api.Event{elem, text}, attr("a"), api.ErrEvents}, {[]api.Event{elem, elem, endElem}, attr("a"), api.ErrEvents},
		{[]api.Event{elem, attr("a"), text}, attr("b"), api.ErrEvents}, {[]api.Event{elem, text, elem}, attr("a"), api.OK},
	} {
		checkStep(t, after(t, l.ahead...), l.x, l.want)
	}
}

// TestExamples holds the examples of the chapter.
func TestExamples(t *testing.T) {
	c := after(t, list, ev(api.Number, "1"), endList)
	checkAsked(t, c, 0, true)
	checkStep(t, c, ev(api.Null), api.ErrEvents)
	checkStep(t, after(t, object, key("a"), ev(api.Null)), key("a"), api.ErrTwice)
	c = after(t, ev(api.Elem, "a"), text)
	checkStep(t, c, ev(api.Text, "y"), api.ErrEvents)
	checkStep(t, c, ev(api.Attr, "b"), api.ErrEvents)
	checkStep(t, c, endElem, api.OK)
	checkStep(t, events.New(), ev(api.Number, "10"), api.ErrEvents)
}

// TestManyValues holds that a list and an element have no limit of values.
func TestManyValues(t *testing.T) {
	c := after(t, list)
	for range 1000 {
		checkStep(t, c, text, api.OK)
		checkStep(t, c, object, api.OK)
		checkStep(t, c, key("a"), api.OK)
		checkStep(t, c, scalar, api.OK)
		checkStep(t, c, endMap, api.OK)
	}
	checkStep(t, c, elem, api.OK)
	for range 1000 {
		checkStep(t, c, text, api.OK)
		checkStep(t, c, elem, api.OK)
		checkStep(t, c, attr("a"), api.OK)
		checkStep(t, c, endElem, api.OK)
	}
	checkAsked(t, c, 2, false)
	checkStep(t, c, endElem, api.OK)
	checkStep(t, c, ev(api.Text, strings.Repeat("x", 48)), api.OK)
	checkStep(t, c, endList, api.OK)
	checkAsked(t, c, 0, true)
}
