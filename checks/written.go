package checks

import (
	"strconv"
	"strings"

	"hexapla/api"
	"hexapla/events"
)

// Written writes events, the same only for the same ones.
func Written(l []api.Event) string {
	var out strings.Builder
	for i, x := range l {
		if i > 0 {
			out.WriteByte(' ')
		}
		out.WriteString(word(x))
	}
	return out.String()
}

// word writes an event: one that a document may have briefly, any other with all
// its parts.
func word(x api.Event) string {
	if !may(x) {
		return "?" + strconv.Itoa(x.Kind) + strconv.Quote(x.Text) + strconv.Quote(x.Val)
	}
	switch x.Kind {
	case api.Null:
		return "null"
	case api.Text:
		return strconv.Quote(x.Text)
	case api.List:
		return "["
	case api.EndList:
		return "]"
	case api.Map:
		return "{"
	case api.Key:
		return strconv.Quote(x.Text) + ":"
	case api.EndMap:
		return "}"
	case api.Elem:
		return "<" + x.Text
	case api.Attr:
		return "@" + x.Text + "=" + strconv.Quote(x.Val)
	case api.EndElem:
		return ">"
	}
	return x.Text // true, false and the numbers
}

// may reports whether a document may have the event x.
func may(x api.Event) bool {
	c := events.New()
	switch x.Kind {
	case api.EndList:
		c.Step(api.Event{Kind: api.List})
	case api.Key, api.EndMap:
		c.Step(api.Event{Kind: api.Map})
	case api.Attr, api.EndElem:
		c.Step(api.Event{Kind: api.Elem, Text: "e"})
	}
	return c.Step(x) == api.OK
}
