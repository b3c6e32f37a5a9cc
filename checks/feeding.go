package checks

import (
	"strconv"
	"strings"

	"hexapla/api"
)

// feeding is a decoder that is fed, and the first fault that it shows.
type feeding struct {
	Decoder
	fault string
	got   []api.Event
	fed   int // bytes
	shown int // bytes behind which an error is told, also ahead of Close
}

// note keeps a fault, if it is the first one.
func (f *feeding) note(words ...string) {
	if f.fault == "" {
		f.fault = strings.Join(words, " ")
	}
}

// feed feeds a piece whose memory is used again behind it.
func (f *feeding) feed(piece string, want bool) {
	b := []byte(piece + "spare")
	if f.Feed(b[:len(piece)]) != want {
		f.note("Feed of", strconv.Quote(piece), "is not", strconv.FormatBool(want))
	}
	if string(b) != piece+"spare" {
		f.note("Feed changed", strconv.Quote(piece), "into", strconv.Quote(string(b)))
	}
	for i := range b {
		b[i] = '!'
	}
	f.fed += len(piece)
}

// drain takes the events that there are, and returns the state that ends them.
func (f *feeding) drain() api.State {
	for {
		x, state := f.Next()
		if state == api.Got {
			f.got = append(f.got, x)
			continue
		}
		if x != (api.Event{}) {
			f.note("there is", word(x), "beside the state", strconv.Itoa(int(state)))
		}
		return state
	}
}

// expect takes the events that there are, and holds the state that ends them.
func (f *feeding) expect(want api.State) {
	if state := f.drain(); state != want {
		f.note("behind", strconv.Itoa(f.fed), "bytes, the state is", strconv.Itoa(int(state)))
	}
}

// ahead holds what a decoder answers ahead of its end.
func (f *feeding) ahead() {
	f.expect(api.More)
	if e, at := f.End(); e != api.OK || at != -1 {
		f.note(tell("ahead of the end, End is", e, at))
	}
}

// behind holds what a decoder answers behind its end, again and again.
func (f *feeding) behind(want Result) {
	last := api.Done
	if want.Err != api.OK {
		last = api.Failed
	}
	for range 2 {
		f.expect(last)
		for range 2 {
			if e, at := f.End(); e != want.Err || at != want.At {
				f.note(tell("End is", e, at), "and not", tell("", want.Err, want.At))
			}
		}
	}
}

// ask holds what a decoder answers ahead of Close: its end comes with the byte
// that shows an error, and not before.
func (f *feeding) ask(want Result) {
	if want.Err != api.OK && f.fed >= f.shown {
		f.behind(want)
	} else {
		f.ahead()
	}
}

// finish holds what a decoder answers from Close on, also when that and Feed are
// called again, and all of its events.
func (f *feeding) finish(want Result) {
	f.Close()
	f.feed("1", false)
	f.feed("", false)
	f.behind(want)
	f.Close()
	f.feed("\xff", false)
	f.behind(want)
	if got, wanted := Written(f.got), Written(want.Events); got != wanted {
		f.note("the events are", got, "and not", wanted)
	}
}

// report tells a fault of the decoding of a text.
func (f *feeding) report(t T, text string) {
	t.Helper()
	if f.fault != "" {
		t.Error(strconv.Quote(text)+", in pieces:", f.fault)
	}
}
