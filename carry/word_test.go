package carry_test

import (
	"regexp"
	"strings"
	"testing"
	"unsafe"

	"hexapla/api"
	"hexapla/carry"
	"hexapla/quote"
	"hexapla/texts"
	"hexapla/trees"
)

// checkWord holds a key as a word, or its error.
func checkWord(t *testing.T, key, want string, wantErr api.Errno) {
	t.Helper()
	if w, e := carry.Word(key); w != want || e != wantErr {
		t.Errorf("%q: %q %v, not %q %v", key, w, e, want, wantErr)
	}
}

func TestWord(t *testing.T) {
	for _, key := range []string{"a", "Z", "_", "a-b", "_1", "null", "true", "a0-_", strings.Repeat("n", 16)} {
		checkWord(t, key, key, api.OK)
	}
	for key, want := range map[string]string{
		"": `""`, "a.b": `"a.b"`, "a.": `"a."`, ".": `"."`, "1": `"1"`, "-a": `"-a"`, "a b": `"a b"`, " a": `" a"`, "{u}a": `"{u}a"`, "a:b": `"a:b"`, "é": `"é"`, "aé": `"aé"`,
		`"`: `"\""`, `a\`: `"a\\"`, "\n": `"\n"`, "a\t": `"a\t"`, "\x00": `"\u0000"`, "\x1f": `"\u001f"`, strings.Repeat("n", 17): `"` + strings.Repeat("n", 17) + `"`,
		strings.Repeat("n", 15) + ".": `"` + strings.Repeat("n", 15) + `."`, strings.Repeat("n", 48): `"` + strings.Repeat("n", 48) + `"`,
		strings.Repeat("\x01", 48): `"` + strings.Repeat(`\u0001`, 48) + `"`,
	} {
		checkWord(t, key, want, api.OK)
	}
}

// TestNoWord holds keys that quote.Print refuses.
func TestNoWord(t *testing.T) {
	x := strings.Repeat("x", 49)
	for _, key := range []string{x, x[:47] + "é", x[:46] + "€", strings.Repeat("x", 1000), x[:48] + "."} {
		checkWord(t, key, "", api.ErrToken)
	}
	for _, key := range []string{"\xff", "a\xc3", "\xed\xa0\x80", "a\xff", x + "\xff", "\xff" + x} {
		checkWord(t, key, "", api.ErrUTF)
	}
}

// TestWordAll holds short keys against the grammar.
func TestWordAll(t *testing.T) {
	plain := regexp.MustCompile(`^[a-zA-Z_][a-zA-Z0-9_-]{0,15}$`)
	for key := range texts.Short("azAZ_09-.\" \n{\xc3\xa9", 4) {
		if plain.MatchString(key) {
			checkWord(t, key, key, api.OK)
		} else {
			want, e := quote.Print(key)
			checkWord(t, key, want, e)
		}
	}
}

// TestTextsApart holds that what is told shares no memory with what was asked.
func TestTextsApart(t *testing.T) {
	key := string([]byte("key"))
	if w, _ := carry.Word(key); unsafe.StringData(w) == unsafe.StringData(key) {
		t.Error("Word")
	}
	for _, written := range []string{"12345", "true"} {
		n := trees.Read(written)
		if row, _ := carry.Row(n); row != written || unsafe.StringData(row) == unsafe.StringData(n.Text) {
			t.Error("Row", written)
		}
	}
}
