package events_test

import (
	"slices"
	"testing"

	"hexapla/api"
	"hexapla/events"
)

// checkWhole holds what Whole answers.
func checkWhole(t *testing.T, l []api.Event, want int, wantErr api.Errno) {
	t.Helper()
	if n, e := events.Whole(l); n != want || e != wantErr {
		t.Errorf("%v: %d %v, not %d %v", l, n, e, want, wantErr)
	}
}

func TestWhole(t *testing.T) {
	for _, l := range [][]api.Event{
		{ev(api.Null)}, {scalar}, {ev(api.Number, "1")}, {text}, {ev(api.Text, "")}, {list, endList}, {object, endMap}, {elem, endElem},
		{list, scalar, text, list, endList, endList}, {object, key("a"), object, key("a"), scalar, endMap, endMap},
		{elem, attr("a"), text, elem, endElem, text, endElem},
	} {
		checkWhole(t, l, len(l), api.OK)
		checkWhole(t, l, len(l), api.OK)                        // nothing is kept
		checkWhole(t, append(l, scalar), len(l), api.ErrEvents) // further events
		checkWhole(t, append(l, l[0], scalar), len(l), api.ErrEvents)
		for n := range l { // what is missing is told behind all that is there
			checkWhole(t, l[:n], n, api.ErrEvents)
		}
	}
	checkWhole(t, nil, 0, api.ErrEvents)
	checkWhole(t, []api.Event{}, 0, api.ErrEvents)
}

func TestWholeRefused(t *testing.T) {
	full := []api.Event{object}
	for i := range 10 {
		full = append(full, key(string(rune('a'+i))), scalar)
	}
	for _, l := range []struct {
		l    []api.Event
		n    int
		want api.Errno
	}{
		{[]api.Event{{}}, 0, api.ErrEvents}, {[]api.Event{endList}, 0, api.ErrEvents}, {[]api.Event{key("a"), scalar}, 0, api.ErrEvents},
		{[]api.Event{list, endMap}, 1, api.ErrEvents}, {[]api.Event{list, scalar, endMap, endList}, 2, api.ErrEvents},
		{[]api.Event{scalar, scalar}, 1, api.ErrEvents}, {[]api.Event{list, endList, endList}, 2, api.ErrEvents},
		{nested(7, list, list), 6, api.ErrDepth}, {append(nested(6, list, list), elem, scalar), 6, api.ErrDepth},
		{nested(6, list, list), 6, api.ErrEvents}, // only incomplete
		{[]api.Event{object, key("a"), scalar, key("a"), scalar, endMap}, 3, api.ErrTwice},
		{[]api.Event{elem, attr("a"), attr("b"), attr("a"), endElem}, 3, api.ErrTwice},
		{append(slices.Clone(full), key("k"), scalar, endMap), 21, api.ErrFields}, {append(slices.Clone(full), key("j"), scalar, endMap), 21, api.ErrTwice},
		{append(slices.Clone(full), endMap), 22, api.OK}, {full, 21, api.ErrEvents},
		{[]api.Event{list, ev(api.Number, "10"), endMap}, 1, api.ErrEvents}, // the first of two
		{[]api.Event{object, key("a"), scalar, key("a"), endList}, 3, api.ErrTwice},
		{[]api.Event{ev(api.Text, "\xff"), list}, 0, api.ErrEvents}, {[]api.Event{list, ev(api.Null, "x")}, 1, api.ErrEvents},
	} {
		checkWhole(t, l.l, l.n, l.want)
	}
}

// TestWholeKeepsArguments holds that neither events nor what lies behind them
// are changed.
func TestWholeKeepsArguments(t *testing.T) {
	all := []api.Event{object, key("a"), scalar, endMap, text, {}}
	before := slices.Clone(all)
	checkWhole(t, all[:4], 4, api.OK)
	checkWhole(t, all[:3], 3, api.ErrEvents)
	if !slices.Equal(all, before) {
		t.Errorf("%v", all)
	}
}
