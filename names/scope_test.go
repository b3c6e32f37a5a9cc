package names_test

import (
	"math/rand"
	"strconv"
	"strings"
	"testing"

	"hexapla/api"
	"hexapla/names"
)

// checkBind holds the error with which a binding is refused, or OK.
func checkBind(t *testing.T, s *names.Scope, prefix, space string, want api.Errno) {
	t.Helper()
	if e := s.Bind(prefix, space); e != want {
		t.Errorf("Bind(%q, %q): %v, not %v", prefix, space, e, want)
	}
}

// checkSpace holds what a prefix is bound to.
func checkSpace(t *testing.T, s *names.Scope, prefix, want string, wantOK bool) {
	t.Helper()
	if space, ok := s.Space(prefix); space != want || ok != wantOK {
		t.Errorf("Space(%q): %q %v, not %q %v", prefix, space, ok, want, wantOK)
	}
}

// checkClose holds the error of Close, or OK.
func checkClose(t *testing.T, s *names.Scope, want api.Errno) {
	t.Helper()
	if e := s.Close(); e != want {
		t.Errorf("Close: %v, not %v", e, want)
	}
}

// opened returns a Scope with one open scope.
func opened() *names.Scope {
	s := names.New()
	s.Open()
	return s
}

// filled returns a Scope whose only open scope binds n prefixes, p0 and so on.
func filled(t *testing.T, n int) *names.Scope {
	t.Helper()
	s := opened()
	for i := range n {
		checkBind(t, s, "p"+strconv.Itoa(i), "u"+strconv.Itoa(i), api.OK)
	}
	return s
}

func TestNoScope(t *testing.T) {
	s := names.New()
	for range 2 { // before the first scope, and behind the last one
		for _, l := range []struct{ prefix, space string }{{"p", "u"}, {"", "u"}, {"", ""}, {"p", ""}, {"1", "a b"}} {
			checkBind(t, s, l.prefix, l.space, api.ErrArg)
		}
		for range 3 {
			checkClose(t, s, api.ErrNone)
		}
		checkSpace(t, s, "p", "", false)
		checkSpace(t, s, "", "", true)
		s.Open()
		checkBind(t, s, "p", "u", api.OK)
		checkBind(t, s, "", "v", api.OK)
		checkClose(t, s, api.OK)
	}
}

func TestScopeExample(t *testing.T) {
	s := opened()
	checkBind(t, s, "p", "u", api.OK)
	s.Open()
	checkSpace(t, s, "p", "u", true)
	checkBind(t, s, "p", "v", api.OK)
	checkSpace(t, s, "p", "v", true)
	checkClose(t, s, api.OK)
	checkSpace(t, s, "p", "u", true)
}

// TestNested binds prefixes in an outer scope, in an inner one, and in both.
func TestNested(t *testing.T) {
	s := opened()
	checkBind(t, s, "out", "o1", api.OK)
	checkBind(t, s, "both", "b1", api.OK)
	checkSpace(t, s, "in", "", false)
	s.Open()
	checkSpace(t, s, "both", "b1", true)
	checkBind(t, s, "both", "b2", api.OK)
	checkBind(t, s, "in", "i2", api.OK)
	s.Open() // binds none
	s.Open()
	checkBind(t, s, "both", "b1", api.OK) // as it was, two scopes further out
	for _, l := range []struct {
		out, both, in string
	}{{"o1", "b1", "i2"}, {"o1", "b2", "i2"}, {"o1", "b2", "i2"}, {"o1", "b1", ""}, {"", "", ""}} {
		checkSpace(t, s, "out", l.out, l.out != "")
		checkSpace(t, s, "both", l.both, l.both != "")
		checkSpace(t, s, "in", l.in, l.in != "")
		checkSpace(t, s, "none", "", false)
		s.Close()
	}
	checkClose(t, s, api.ErrNone)
}

func TestEmptyPrefix(t *testing.T) {
	s := opened()
	checkSpace(t, s, "", "", true)
	checkBind(t, s, "p", "u", api.OK)
	checkSpace(t, s, "", "", true) // not bound, beside one that is
	s.Open()
	checkBind(t, s, "", "d", api.OK)
	checkSpace(t, s, "", "d", true)
	s.Open()
	checkSpace(t, s, "", "d", true)
	checkBind(t, s, "", "", api.OK)
	checkSpace(t, s, "", "", true)
	checkSpace(t, s, "p", "u", true)
	for _, space := range []string{"", "e"} {
		checkBind(t, s, "", space, api.ErrTwice)
	}
	s.Open()
	checkSpace(t, s, "", "", true)
	checkBind(t, s, "", "e", api.OK)
	checkSpace(t, s, "", "e", true)
	checkBind(t, s, "", "", api.ErrTwice)
	for _, want := range []string{"e", "", "d", "", ""} {
		checkSpace(t, s, "", want, true)
		s.Close()
	}
}

// TestBindArguments binds what may just be bound, and refuses what may not.
func TestBindArguments(t *testing.T) {
	n, u := strings.Repeat("n", 17), strings.Repeat("s", 49)
	for _, l := range []struct{ prefix, space string }{
		{"p", "u"}, {"_", "p"}, {"a1-.", "é"}, {"xmlns", "1"}, {n[:16], u[:48]}, {"", u[:48]}, {"p", "€"}, {"p", "\U0001f600"}, {"p", strings.Repeat("é", 24)},
	} {
		s := opened()
		checkBind(t, s, l.prefix, l.space, api.OK)
		checkSpace(t, s, l.prefix, l.space, true)
	}
	s := opened()
	for _, l := range []struct{ prefix, space string }{
		{"p", ""}, {"_", ""}, {"1", ""}, {"1", "u"}, {"-p", "u"}, {".", "u"}, {" ", "u"}, {"p:q", "u"}, {"{u}p", "u"}, {"é", "u"}, {"\xff", "u"}, {"p ", "u"}, {n, "u"},
		{"p", " "}, {"p", "a b"}, {"p", "{"}, {"p", "}"}, {"p", `"`}, {"p", "<"}, {"p", ">"}, {"p", "&"}, {"p", `\`}, {"p", "\x00"}, {"p", "\xff"}, {"p", "\xc3"}, {"p", u},
		{"", " "}, {"", "a}"}, {"", "\xff"}, {"", u}, {"1", "a b"}, {n, u},
	} {
		checkBind(t, s, l.prefix, l.space, api.ErrArg)
		checkSpace(t, s, l.prefix, "", l.prefix == "")
	}
}

func TestTwice(t *testing.T) {
	s := opened()
	checkBind(t, s, "p", "u", api.OK)
	for _, space := range []string{"u", "v", "p"} {
		checkBind(t, s, "p", space, api.ErrTwice)
		checkSpace(t, s, "p", "u", true)
	}
	checkBind(t, s, "P", "v", api.OK) // another one
	checkBind(t, s, "q", "u", api.OK) // of the same namespace
	s.Open()
	checkBind(t, s, "p", "v", api.OK)
	checkBind(t, s, "p", "u", api.ErrTwice)
	s.Close()
	checkBind(t, s, "p", "v", api.ErrTwice)
	checkSpace(t, s, "p", "u", true)
	checkSpace(t, s, "P", "v", true)
	checkSpace(t, s, "q", "u", true)
}

func TestTooMany(t *testing.T) {
	s := filled(t, 10)
	for range 2 {
		checkBind(t, s, "p10", "u", api.ErrFields)
		checkBind(t, s, "", "u", api.ErrFields)
		checkBind(t, s, "", "", api.ErrFields)
	}
	s.Open() // counts for itself
	for i := range 10 {
		checkBind(t, s, "q"+strconv.Itoa(i), "v", api.OK)
	}
	checkBind(t, s, "p1", "v", api.ErrFields) // although it is bound outside
	checkSpace(t, s, "p1", "u1", true)
	checkSpace(t, s, "q9", "v", true)
	checkSpace(t, s, "q10", "", false)
	checkClose(t, s, api.OK)
	checkBind(t, s, "p10", "u", api.ErrFields)
	checkClose(t, s, api.OK)
	s.Open()
	checkBind(t, s, "p10", "u", api.OK)
}

// TestTooManyWithEmpty counts the empty prefix like others, whatever it is
// bound to.
func TestTooManyWithEmpty(t *testing.T) {
	for _, space := range []string{"", "u"} {
		s := filled(t, 9)
		checkBind(t, s, "", space, api.OK)
		checkBind(t, s, "q", "u", api.ErrFields)
		checkBind(t, s, "", "v", api.ErrTwice)
		checkSpace(t, s, "", space, true)
		checkSpace(t, s, "q", "", false)
	}
}

// TestFirstError asks for several errors at once.
func TestFirstError(t *testing.T) {
	s := filled(t, 10)
	for _, space := range []string{"u0", "v"} {
		checkBind(t, s, "p0", space, api.ErrTwice) // ahead of ErrFields
		checkBind(t, s, "p9", space, api.ErrTwice)
	}
	for _, l := range []struct{ prefix, space string }{
		{"p0", ""}, {"p0", "a b"}, {"p0", "\xff"}, // bound already, in a full scope
		{"q", ""}, {"q", "{"}, {"1", "u"}, {"", ">"},
	} {
		checkBind(t, s, l.prefix, l.space, api.ErrArg)
	}
	for i := range 10 {
		checkSpace(t, s, "p"+strconv.Itoa(i), "u"+strconv.Itoa(i), true)
	}
	s = filled(t, 1)
	checkBind(t, s, "p0", "", api.ErrArg) // bound already, in one with room
	checkClose(t, s, api.OK)
	checkBind(t, s, "p0", "u0", api.ErrArg)
}

// TestRefusedAreNotCounted refuses bindings where there is room for one more.
func TestRefusedAreNotCounted(t *testing.T) {
	s := filled(t, 9)
	for range 20 {
		checkBind(t, s, "p0", "v", api.ErrTwice)
		checkBind(t, s, "q", "", api.ErrArg)
		checkBind(t, s, "q", "a b", api.ErrArg)
		checkBind(t, s, "1", "u", api.ErrArg)
	}
	checkSpace(t, s, "q", "", false)
	checkBind(t, s, "q", "v", api.OK)
	checkSpace(t, s, "q", "v", true)
	checkBind(t, s, "r", "v", api.ErrFields)
}

func TestSpaceOfOthers(t *testing.T) {
	s := filled(t, 3)
	checkBind(t, s, "", "d", api.OK)
	for _, prefix := range []string{"p", "p3", "P0", "u0", "p0 ", "p01", "1", " ", "{u0}p0", "é", "\xff", "\x00", strings.Repeat("n", 17)} {
		checkSpace(t, s, prefix, "", false)
	}
}

// TestManyTimes opens and closes one scope within another, and then many scopes
// in one another: none shows what another had bound in its place.
func TestManyTimes(t *testing.T) {
	s := opened()
	checkBind(t, s, "p", "u", api.OK)
	for i := range 3000 {
		s.Open()
		name := "q" + strconv.Itoa(i)
		checkSpace(t, s, "q"+strconv.Itoa(i-1), "", false)
		checkSpace(t, s, "", "", true)
		checkBind(t, s, name, "v", api.OK)
		checkBind(t, s, "p", name, api.OK)
		checkBind(t, s, "", name, api.OK)
		checkSpace(t, s, "p", name, true)
		checkClose(t, s, api.OK)
		checkSpace(t, s, "p", "u", true)
	}
	for i := range 3000 {
		s.Open()
		if i%2 == 0 {
			checkBind(t, s, "p", "v"+strconv.Itoa(i), api.OK)
		}
	}
	for i := 2999; i >= 0; i-- {
		checkSpace(t, s, "p", "v"+strconv.Itoa(i-i%2), true)
		checkClose(t, s, api.OK)
	}
	checkSpace(t, s, "p", "u", true)
	checkClose(t, s, api.OK)
	checkClose(t, s, api.ErrNone)
	checkSpace(t, s, "p", "", false)
}

func TestScopesAreIndependent(t *testing.T) {
	a, b := opened(), opened()
	checkBind(t, a, "p", "u", api.OK)
	checkSpace(t, b, "p", "", false)
	checkBind(t, b, "p", "v", api.OK)
	checkClose(t, b, api.OK)
	checkSpace(t, a, "p", "u", true)
	checkBind(t, a, "p", "w", api.ErrTwice)
	checkClose(t, b, api.ErrNone)
	checkClose(t, a, api.OK)
}

// bound is one binding, as model keeps it: in order, all scopes in one list.
type bound struct {
	depth         int
	prefix, space string
}

// model is the plainest thing that behaves as a Scope does.
type model struct {
	depth int
	list  []bound
}

func (m *model) bind(prefix, space string) api.Errno {
	if m.depth == 0 || prefix != "" && !isLocal(prefix) || space != "" && !isSpace(space) || space == "" && prefix != "" {
		return api.ErrArg
	}
	count := 0
	for _, b := range m.list {
		if b.depth == m.depth && b.prefix == prefix {
			return api.ErrTwice
		} else if b.depth == m.depth {
			count++
		}
	}
	if count == 10 {
		return api.ErrFields
	}
	m.list = append(m.list, bound{m.depth, prefix, space})
	return api.OK
}

func (m *model) close() api.Errno {
	if m.depth == 0 {
		return api.ErrNone
	}
	for len(m.list) > 0 && m.list[len(m.list)-1].depth == m.depth {
		m.list = m.list[:len(m.list)-1]
	}
	m.depth--
	return api.OK
}

func (m *model) space(prefix string) (string, bool) {
	for i := len(m.list) - 1; i >= 0; i-- {
		if m.list[i].prefix == prefix {
			return m.list[i].space, true
		}
	}
	return "", prefix == ""
}

// TestAgainstModel does many calls on a Scope and on a model of it.
func TestAgainstModel(t *testing.T) {
	prefixes := []string{"", "a", "b", "c", "d", "e", "f", "g", "h", "i", "j", "k", "1", "é"}
	spaces := []string{"", "u", "v", "w", "x", "y", "z", "é", "a b", "\xff"}
	choose := rand.New(rand.NewSource(4))
	for range 200 {
		s, m := names.New(), &model{}
		for range 300 {
			prefix, space := prefixes[choose.Intn(len(prefixes))], spaces[choose.Intn(len(spaces))]
			switch choose.Intn(20) {
			case 0:
				s.Open()
				m.depth++
			case 1:
				checkClose(t, s, m.close())
			default:
				checkBind(t, s, prefix, space, m.bind(prefix, space))
			}
			for _, asked := range prefixes {
				want, wantOK := m.space(asked)
				checkSpace(t, s, asked, want, wantOK)
			}
		}
	}
}

// spacesOf returns what each of some prefixes is bound to, and whether it is.
func spacesOf(s *names.Scope, prefixes []string) string {
	var list []string
	for _, prefix := range prefixes {
		space, ok := s.Space(prefix)
		list = append(list, prefix, space, strconv.FormatBool(ok))
	}
	return strings.Join(list, " ")
}

// TestAllAsBefore holds that a scope, whatever is done in it and in those in
// it, leaves the bindings outside as they were, those that may be made too.
func TestAllAsBefore(t *testing.T) {
	prefixes := []string{"", "p", "p0", "p1", "p8", "p9", "q"}
	for _, n := range []int{0, 1, 9, 10} {
		s := filled(t, n)
		before := spacesOf(s, prefixes)
		s.Open()
		for i, prefix := range prefixes {
			checkBind(t, s, prefix, "v"+strconv.Itoa(i), api.OK)
			s.Open()
			checkBind(t, s, prefix, "w", api.OK)
		}
		for range len(prefixes) + 1 {
			checkClose(t, s, api.OK)
		}
		if after := spacesOf(s, prefixes); after != before {
			t.Errorf("%d: %s, not %s", n, after, before)
		}
		want := api.OK
		if n == 10 {
			want = api.ErrFields
		}
		checkBind(t, s, "q", "u", want)
	}
}
