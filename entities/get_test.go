package entities_test

import (
	"slices"
	"testing"
	"unsafe"

	"hexapla/api"
	"hexapla/entities"
	"hexapla/texts"
)

func TestGet(t *testing.T) {
	r := newRig(t)
	unknown := append([]string{"a", "b", "x", "A", "aa"}, texts.NoNames()...)
	r.lacks(api.ErrEntity, unknown...)
	r.defines("a", "x")
	r.defines("b", "")
	r.gets("a", "x")
	r.gets("b", "")
	r.gets("a", "x")
	r.asked(3, 3)
	r.lacks(api.ErrEntity, slices.DeleteFunc(unknown, func(name string) bool { return name == "a" || name == "b" })...)
	r.defines("x", "a") // later, and behind a Get that has not found it
	r.gets("x", "a")
	r.gets("a", "x")
}

// TestExpand holds that 40 texts are told, and no more, whichever they are and
// by whichever function.
func TestExpand(t *testing.T) {
	for first := range 41 {
		r := newRig(t)
		r.defines("a", "x")
		r.defines("b", "")
		for told := range 40 {
			if told < first {
				r.gets([]string{"a", "b"}[told%2], []string{"x", ""}[told%2])
			} else {
				r.fills(1, []string{"1&a;2", "&b;"}[told%2], []string{"1x2", ""}[told%2])
			}
		}
		r.asked(3, 40)
		for range 3 {
			r.lacks(api.ErrExpand, "a", "b")
			r.stops(0, "&a;", api.ErrExpand, 2)
			r.stops(0, "12&b;", api.ErrExpand, 4)
		}
		r.asked(3, 40)
	}
}

// TestBehindExpand holds what is still told behind the 40th text.
func TestBehindExpand(t *testing.T) {
	r := newRig(t)
	r.defines("a", "x")
	r.tells(40, "x")
	for range 50 {
		r.keepsPredefined()
	}
	r.lacks(api.ErrEntity, "b", "LT", "") // ahead of ErrExpand
	r.lacks(api.ErrEntity, texts.NoNames()...)
	r.stops(0, "&b;", api.ErrEntity, 2)
	r.defines("b", "y") // defining is not told of
	r.lacks(api.ErrExpand, "b", "a")
	r.shuts(api.ErrTwice, "a", "x")
	r.fills(0, "a&amp;b", "a&b")
	r.stops(0, "&lt;&b;", api.ErrExpand, 6)
	r.asked(4, 40)
}

// TestPredefinedFree holds that predefined entities never count.
func TestPredefinedFree(t *testing.T) {
	r := newRig(t)
	for range 100 {
		r.keepsPredefined()
	}
	r.asked(0, 0)
	r.defines("a", "x")
	for range 40 {
		r.gets("a", "x")
		r.keepsPredefined()
		r.shuts(api.ErrTwice, "lt", "x")
	}
	r.lacks(api.ErrExpand, "a")
	r.asked(2, 40)
}

// TestRefusedFree holds that what is not told does not count.
func TestRefusedFree(t *testing.T) {
	r := newRig(t)
	r.defines("a", "x")
	for range 100 {
		r.lacks(api.ErrEntity, "b", "", "1")
		r.stops(0, "&b;", api.ErrEntity, 2)
		r.stops(0, "&a", api.ErrSyntax, 2)
		r.stops(0, "&a:;", api.ErrSyntax, 2)
	}
	r.tells(40, "x")
	r.lacks(api.ErrExpand, "a")
}

// TestApart holds that what is told or expanded shares no memory with what was
// handed in, or with what was told before.
func TestApart(t *testing.T) {
	lying := map[*byte]string{}
	add := func(l ...string) {
		for _, text := range l {
			p := unsafe.StringData(text)
			if lying[p] != "" {
				t.Error(text, "and", lying[p], "lie at one place")
			}
			lying[p] = text
		}
	}
	e := entities.New()
	whole := []byte("text plain &a; &lt;")
	text, plain, raw := string(whole[:4]), string(whole[5:10]), string(whole[11:])
	add(text, plain, raw)
	e.Define("a", text)
	for range 3 {
		got, _ := e.Get("a")
		less, _ := e.Get("lt")
		copied, _, _ := e.Fill(plain)
		filled, _, _ := e.Fill(raw)
		alone, _, _ := e.Fill("&a;")
		add(got, less, copied, filled, alone)
		if got != "text" || less != "<" || copied != "plain" || filled != "text <" || alone != "text" {
			t.Error(got, less, copied, filled, alone)
		}
	}
	if len(lying) != 18 {
		t.Error(len(lying))
	}
}

// TestNotKept holds that an entity is not changed where the memory that its name
// and its text were handed in is.
func TestNotKept(t *testing.T) {
	r := newRig(t)
	bytes := []byte("nametext")
	handed := unsafe.String(&bytes[0], len(bytes))
	r.defines(handed[:4], handed[4:])
	copy(bytes, "********")
	r.gets("name", "text")
	r.fills(1, "&name;", "text")
	r.lacks(api.ErrEntity, "****")
	r.shuts(api.ErrTwice, "name", "x")
}

// TestIndependent holds that no Entities knows of another.
func TestIndependent(t *testing.T) {
	r, other := newRig(t), newRig(t)
	r.defines("a", "x")
	other.lacks(api.ErrEntity, "a")
	other.defines("b", long[:199])
	r.lacks(api.ErrEntity, "b")
	other.shuts(api.ErrEntitySpace, "a", "y")
	r.defines("b", "y")
	r.tells(40, "x")
	other.gets("b", long[:199])
	r.asked(4, 40)
	other.asked(200, 1)
	newRig(t).asked(0, 0)
}
