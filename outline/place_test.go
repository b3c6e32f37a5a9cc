package outline_test

import (
	"strconv"
	"strings"
	"testing"

	"hexapla/api"
	"hexapla/checks"
)

// room returns lines behind which left bytes may still be stored under anchors,
// and their events. The value of a, a list in a list, is open; that of r is 7 in
// a list, and that of s is "s".
func room(left int) (string, string) {
	text, told := "- &r [7]\n- &s \"s\"\n- &a\n", `[ [ 7 ] "s" [`
	for rest := 200 - len("r"+"s"+"a") - 4 - 2 - 1 - left; rest > 0; {
		n := min(rest, 49) - 1
		rest -= n + 1
		fill := strconv.Quote(strings.Repeat("f", n))
		text, told = text+"  - "+fill+"\n", told+" "+fill
	}
	return text, told
}

// cost is what an event takes of what may be stored under an anchor.
func cost(x api.Event) int { return len(x.Text) + 1 }

// placed holds at which bytes the events of lines are reported, by letting each
// of them be the first one for which there is no room. The lines stand in a list.
// For marked see checks.Placed.
func placed(t *testing.T, marked, written string) {
	t.Helper()
	text, events, places := checks.Placed(t, marked, written)
	left := 0
	for i, x := range events {
		ahead, told := room(left)
		want := follows(told, checks.Written(events[:i]))
		syntax.Check(t, ahead+text, want, api.ErrAnchorSpace, len(ahead)+places[i])
		left += cost(x)
		ahead, told = room(left - 1)
		want = follows(told, checks.Written(events[:i]))
		syntax.Check(t, ahead+text, want, api.ErrAnchorSpace, len(ahead)+places[i])
	}
	ahead, told := room(left + 1) // as the list of a ends there, too
	if r := syntax.Read(t, ahead+text); r.Err != api.OK || !strings.HasPrefix(checks.Written(r.Events), follows(told, written)) {
		t.Errorf("%q: %s", ahead+text, r.Written())
	}
}

// TestPlaces holds the position of each event, and that what goes beyond what
// may be stored is met there.
func TestPlaces(t *testing.T) {
	placed(t, "  - nul^l\n  -   tru^e  \n  - fals^e\n", "null true false")
	placed(t, "  - ^1\n  - -10^0\n  - 1^0 \n", "1 -1e2 1e1")
	placed(t, "  - \"abc^\"\n  - \"^\"  \n", `"abc" ""`)
	placed(t, "  - ^[ 1^2, ^{ \"k^\" : \"x^\" ^}, ^[^]^]  \n", `[ 12 { "k": "x" } [ ] ]`)
	placed(t, "  - ^[1^2,tru^e,-^1^]\n", "[ 12 true -1 ]")
	placed(t, "  - *^^^r\n  -  ^[*^s, *^^^r ^] \n", `[ 7 ] [ "s" [ 7 ] ]`)
	placed(t, "  -\n    ^^a: ^1\n    a^b  : \"x^\"\n    \"c^\": ^{^}\n  ^- nul^l", `{ "a": 1 "ab": "x" "c": { } } null`)
	placed(t, "  -\n    ^\"d^\":\n    ^e^f:\n\n      #\n  ^^- ^1", `{ "d": null "ef": null } 1`)
	placed(t, "  -\n    ^-\n    ^- ^1\n    -   \n\n  # x\n  ^^-\n ^", "[ null 1 null ] null")
	placed(t, "  -\n    ^-\n      ^k^k:\n  ^^^- \"^\"", `[ { "kk": null } ] ""`)
	placed(t, "  -\n    ^-\n      ^-\n  ^^^- tru^e", "[ [ null ] ] true")
	placed(t, "  -\n    ^-\n      ^-\n ^^^", "[ [ null ] ]")
}

// inRoom holds the error that is met at the last byte of lines behind room.
func inRoom(t *testing.T, left int, text, want string, e api.Errno) {
	t.Helper()
	ahead, told := room(left)
	syntax.Check(t, ahead+text, follows(told, want), e, len(ahead+text)-1)
	syntax.Check(t, ahead+text+"\n", follows(told, want), e, len(ahead+text)-1)
}

// TestNameSpace holds names for which there is no room, each told at its last
// byte.
func TestNameSpace(t *testing.T) {
	for _, left := range []int{0, 1, 2, 15} {
		name := strings.Repeat("n", left+1)
		inRoom(t, left, "  - &"+name, "", api.ErrAnchorSpace)
		inRoom(t, left, "  -   &"+name, "", api.ErrAnchorSpace)
		inRoom(t, left, "  - &a", "", api.ErrTwice) // ahead of the room
		inRoom(t, left, "  - &"+strings.Repeat("n", 17), "", api.ErrToken)
		inRoom(t, left, "  - &"+name[1:]+"!", "", api.ErrSyntax)
		ahead, told := room(left)
		syntax.Check(t, ahead+"  - &"+name+" 1 x", told, api.ErrAnchorSpace, len(ahead)+4+len(name))
	}
	ahead, told := room(16)
	syntax.Check(t, ahead+"  - &"+strings.Repeat("n", 16), told, api.ErrAnchorSpace, len(ahead)+21) // for Null, not for the name
	inRoom(t, 2, "  - &b [", "", api.ErrAnchorSpace)                                                // which is stored twice
	inRoom(t, 3, "  - &b [1", "[", api.ErrAnchorSpace)
}

// TestSpaceOrder holds what comes ahead of an event for which there is no room,
// and behind it.
func TestSpaceOrder(t *testing.T) {
	inRoom(t, 4, "  - [[[[[", "[ [ [ [", api.ErrDepth)
	inRoom(t, 5, `  - {"k":1,"l"`, `{ "k": 1`, api.ErrAnchorSpace)
	inRoom(t, 5, `  - {"k":1,"k"`, `{ "k": 1`, api.ErrTwice)
	ahead, told := room(0)
	for _, text := range []string{"1.", "1e1000", strings.Repeat("1", 31), `"\`, "nul", "*", "x"} { // no event yet
		e := map[string]api.Errno{"1e1000": api.ErrNumber, strings.Repeat("1", 31): api.ErrToken}[text]
		if e == api.OK {
			e = api.ErrSyntax
		}
		r := syntax.Read(t, ahead+"  - "+text)
		if checks.Written(r.Events) != told || r.Err != e {
			t.Errorf("%q: %s", text, r.Written())
		}
	}
	syntax.Check(t, ahead+"  - *x", told, api.ErrAnchor, len(ahead)+5)
	syntax.Check(t, ahead+"  - 1 x", told, api.ErrAnchorSpace, len(ahead)+4)
	syntax.Check(t, ahead+"  - nullx", told, api.ErrAnchorSpace, len(ahead)+7)
	for _, blanks := range []string{"", " ", "  "} { // ahead of what the line itself has
		for _, rest := range []string{"- 1", "-", "x", "1", "\t", "&a"} {
			syntax.Check(t, ahead+"  -\n\n"+blanks+rest, told, api.ErrAnchorSpace, len(ahead)+5+len(blanks))
		}
	}
	syntax.Check(t, ahead+"  -\n   - 1", told, api.ErrIndent, len(ahead)+7)
	syntax.Check(t, ahead+"  -\n    - 1", told, api.ErrAnchorSpace, len(ahead)+8)
	syntax.Check(t, ahead+"  -\n    1", told, api.ErrSyntax, len(ahead)+8)
	syntax.Check(t, ahead, told, api.ErrAnchorSpace, len(ahead))
	syntax.Check(t, ahead+"- 1", told, api.ErrAnchorSpace, len(ahead))
	syntax.Check(t, ahead+"b", told, api.ErrAnchorSpace, len(ahead))
	syntax.Check(t, ahead+" - 1", told, api.ErrAnchorSpace, len(ahead)+1)
}

// TestNothingStored holds that there is room for all that stands under no open
// name.
func TestNothingStored(t *testing.T) {
	ahead, told := room(1)
	long := strconv.Quote(strings.Repeat("x", 48))
	good(t, ahead+strings.Repeat("- "+long+"\n", 20)+"- [[]]", told+" ]"+strings.Repeat(" "+long, 20)+" [ [ ] ] ]")
	good(t, ahead+"- *s\n- *r", told+` ] "s" [ 7 ] ]`)
	last(t, told+" ]", api.ErrAnchorSpace, ahead+"- &b")
	good(t, strings.Repeat("- "+long+"\n", 20)+"- &a 1", "["+strings.Repeat(" "+long, 20)+" 1 ]")
	var text, want string
	for i := range 50 { // each takes four
		text, want = text+"- &"+string([]byte{byte('A' + i%26), byte('0' + i/26)})+" 1\n", want+" 1"
	}
	good(t, text, "["+want+" ]")
	last(t, "["+want, api.ErrAnchorSpace, text+"- &a")
	good(t, text+"- *A0", "["+want+" 1 ]")
}
