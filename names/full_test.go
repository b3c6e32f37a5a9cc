package names_test

import (
	"strings"
	"testing"

	"hexapla/names"
	"hexapla/texts"
)

// checkCut holds what Cut answers.
func checkCut(t *testing.T, full, wantSpace, wantLocal string, want bool) {
	t.Helper()
	if space, local, ok := names.Cut(full); space != wantSpace || local != wantLocal || ok != want {
		t.Fatalf("Cut(%q): %q %q %v", full, space, local, ok)
	}
}

// checkJoin holds what Join answers.
func checkJoin(t *testing.T, space, local, wantFull string, want bool) {
	t.Helper()
	if full, ok := names.Join(space, local); full != wantFull || ok != want {
		t.Fatalf("Join(%q, %q): %q %v", space, local, full, ok)
	}
}

func TestFull(t *testing.T) {
	n, s := strings.Repeat("n", 16), strings.Repeat("s", 48)
	for _, l := range []struct{ full, space, local string }{
		{"a", "", "a"}, {"_", "", "_"}, {"a1-.", "", "a1-."}, {n, "", n},
		{"{u}a", "u", "a"}, {"{u}" + n, "u", n}, {"{1}_9", "1", "_9"},
		{"{http://example.com/}a.b", "http://example.com/", "a.b"},
		{"{é}a", "é", "a"}, {"{€}a", "€", "a"}, {"{\U0001f600}a", "\U0001f600", "a"},
		{"{" + s[:45] + "}a", s[:45], "a"}, {"{" + s[:30] + "}" + n, s[:30], n}, // 48 bytes
		{"{" + s[:43] + "é}a", s[:43] + "é", "a"}, {"{" + s[:44] + "}ab", s[:44], "ab"},
		{"{" + s[:44] + "}a", s[:44], "a"}, // 47
	} {
		checkCut(t, l.full, l.space, l.local, true)
		checkJoin(t, l.space, l.local, l.full, true)
	}
}

func TestCutRefused(t *testing.T) {
	n, s := strings.Repeat("n", 17), strings.Repeat("s", 1000)
	for _, full := range []string{
		"", "{", "}", "{}", "{}a", "{u}", "{u", "u}a", "u}", "}a", "{u}{v}a", "{{u}a", "{u}}a", "{u{v}a", "{{u}}a", "{u}a}", "{u}a{v}", "a{u}", "a{u}b",
		" {u}a", "{u} a", "{u}a ", "{ u}a", "{u }a", "{u v}a", "a b", " a", "a ", "\n", "{u\n}a", "{u}a\n",
		"1", "-a", ".", "é", "p:a", "{u}1", "{u}-", "{u}.a", "{u}é", "{u}p:a", "{u}a/b",
		`{"}a`, "{<}a", "{>}a", "{&}a", `{\}a`, "{\x00}a", "{\x1f}a",
		"{\xff}a", "{\xc3}a", "{a\x80}a", "{\xe2\x82}a", "{\xed\xa0\x80}a", "{u}\xff", "{u}a\xc3", "\xff", "a\xff", "\xc3",
		n, s, "{u}" + n, "{u" + n, "{" + s[:20] + "}" + n,
		"{" + s[:46] + "}a", "{" + s[:45] + "}ab", "{" + s[:31] + "}" + n[:16], "{" + s[:44] + "é}a", // 49 bytes
		"{" + s[:48] + "}a", "{" + s[:49] + "}a", "{" + s + "}a", "{" + s, "{" + s + "}", "{u}" + s,
	} {
		checkCut(t, full, "", "", false)
	}
}

func TestJoinRefused(t *testing.T) {
	n, s := strings.Repeat("n", 17), strings.Repeat("s", 1000)
	for _, l := range []struct{ space, local string }{
		{"", ""}, {"u", ""}, {"", "1"}, {"u", "1"}, {"u", "-a"}, {"u", ".a"}, {"", "a b"}, {"", "é"}, {"u", "é"}, {"u", "\xff"},
		{"", n}, {"u", n}, {"", s}, {"u", s},
		{"", "{u}a"}, {"u", "{v}a"}, {"", "u}a"}, {"", "{}a"}, {"u}{v", "a"}, {"u}v", "a"}, {"{u}", "a"}, {"u", "}a"}, {"}", "a"}, {"{", "a"},
		{" ", "a"}, {"u v", "a"}, {"u\n", "a"}, {"\x00", "a"}, {`"`, "a"}, {"<", "a"}, {">", "a"}, {"&", "a"}, {`\`, "a"},
		{"\xff", "a"}, {"\xc3", "a"}, {"u\x80", "a"},
		{s[:46], "a"}, {s[:45], "ab"}, {s[:31], n[:16]}, {s[:44] + "é", "a"}, // 49 bytes
		{s[:48], "a"}, {s[:49], "a"}, {s, "a"}, {"", s}, {s, s}, {s, ""},
	} {
		checkJoin(t, l.space, l.local, "", false)
	}
}

// TestFullLengths joins names of each length with namespaces of each length,
// and cuts them again.
func TestFullLengths(t *testing.T) {
	for n := range 19 {
		for s := range 51 {
			local, space := strings.Repeat("n", n), strings.Repeat("s", s)
			full, size := "{"+space+"}"+local, s+n+2
			if s == 0 {
				full, size = local, n
			}
			if 1 <= n && n <= 16 && s <= 48 && size <= 48 {
				checkJoin(t, space, local, full, true)
				checkCut(t, full, space, local, true)
			} else {
				checkJoin(t, space, local, "", false)
				checkCut(t, full, "", "", false)
			}
		}
	}
}

// TestCutJoin cuts all short texts of some bytes, holds what is a full name
// against the grammar, and joins its parts again.
func TestCutJoin(t *testing.T) {
	for full := range texts.Short("{}aZ1.: &\xc3\xa9", 5) {
		parts := fullForm.FindStringSubmatch(full)
		braced := strings.HasPrefix(full, "{")
		if parts == nil || !isLocal(parts[2]) || braced && !isSpace(parts[1]) {
			checkCut(t, full, "", "", false)
			continue
		}
		checkCut(t, full, parts[1], parts[2], true)
		checkJoin(t, parts[1], parts[2], full, true)
	}
}

// TestJoinCut joins all short texts of some bytes, and cuts what comes of it.
func TestJoinCut(t *testing.T) {
	short := texts.Short("{}a1.&\xc3\xa9", 3)
	for space := range short {
		for local := range short {
			full := local
			if space != "" {
				full = "{" + space + "}" + local
			}
			if !isLocal(local) || space != "" && !isSpace(space) {
				checkJoin(t, space, local, "", false)
				continue
			}
			checkJoin(t, space, local, full, true)
			checkCut(t, full, space, local, true)
		}
	}
}
