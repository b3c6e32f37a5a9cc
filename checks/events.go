package checks

import (
	"strconv"
	"strings"

	"hexapla/api"
)

// Events returns the events that Written writes so. It panics if there are none.
func Events(written string) []api.Event {
	var l []api.Event
	for rest := strings.TrimLeft(written, " "); rest != ""; rest = strings.TrimLeft(rest, " ") {
		var x api.Event
		x, rest = first(rest)
		l = append(l, x)
		if rest != "" && rest[0] != ' ' {
			panic("no blank ahead of " + rest)
		}
	}
	return l
}

// first returns the first event of what is written, and what follows it.
func first(written string) (api.Event, string) {
	switch written[0] {
	case '"':
		text, rest := quoted(written)
		if behind, isKey := strings.CutPrefix(rest, ":"); isKey {
			return api.Event{Kind: api.Key, Text: text}, behind
		}
		return api.Event{Kind: api.Text, Text: text}, rest
	case '@':
		end := strings.Index(written, `="`) // no name has this
		val, rest := quoted(written[end+1:])
		return api.Event{Kind: api.Attr, Text: written[1:end], Val: val}, rest
	case '?':
		end := strings.IndexByte(written, '"')
		kind, fault := strconv.Atoi(written[1:end])
		if fault != nil {
			panic(fault)
		}
		text, rest := quoted(written[end:])
		val, rest := quoted(rest)
		return api.Event{Kind: kind, Text: text, Val: val}, rest
	}
	end := strings.IndexByte(written+" ", ' ')
	return bare(written[:end]), written[end:]
}

// quoted returns the text with whose quotes what is written begins, and what
// follows them.
func quoted(written string) (string, string) {
	prefix, _ := strconv.QuotedPrefix(written) // empty if there is none
	text, fault := strconv.Unquote(prefix)
	if fault != nil {
		panic(fault)
	}
	return text, written[len(prefix):]
}

// bare returns the event that is written as a word without quotes.
func bare(written string) api.Event {
	switch written {
	case "null":
		return api.Event{Kind: api.Null}
	case "true", "false":
		return api.Event{Kind: api.Bool, Text: written}
	case "[":
		return api.Event{Kind: api.List}
	case "]":
		return api.Event{Kind: api.EndList}
	case "{":
		return api.Event{Kind: api.Map}
	case "}":
		return api.Event{Kind: api.EndMap}
	case ">":
		return api.Event{Kind: api.EndElem}
	}
	if name, isElem := strings.CutPrefix(written, "<"); isElem {
		return api.Event{Kind: api.Elem, Text: name}
	}
	return api.Event{Kind: api.Number, Text: written}
}

// Placed returns a text, its events, and the byte at which each of them is
// reported. The text is told with a ^ for each, ahead of this byte.
func Placed(t T, marked, written string) (string, []api.Event, []int) {
	t.Helper()
	events := Events(written)
	var places []int
	text := ""
	for i, piece := range strings.Split(marked, "^") {
		if i > 0 {
			places = append(places, len(text))
		}
		text += piece
	}
	if len(places) != len(events) {
		t.Fatal(strconv.Quote(marked)+":", len(places), "places for", len(events), "events")
	}
	return text, events, places
}
