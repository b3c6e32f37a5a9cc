package anchors_test

import (
	"slices"
	"testing"
	"unsafe"

	"hexapla/api"
	"hexapla/checks"
)

func TestGet(t *testing.T) {
	r := newRig(t)
	unknown := append([]string{"a", "b", "x", "A", "aa"}, noNames...)
	r.lacks(api.ErrAnchor, unknown...)
	r.opens("a")
	r.lacks(api.ErrAnchor, unknown...) // open, without events
	r.steps(1, "[")
	r.lacks(api.ErrAnchor, unknown...) // open, with events
	r.opens("b")
	r.steps(2, "null")
	r.gets("b", "null")
	r.lacks(api.ErrAnchor, slices.DeleteFunc(unknown, func(name string) bool { return name == "b" })...)
	r.steps(1, "]")
	r.gets("a", "[ null ]")
	r.gets("b", "null")
	r.asked(6, 5)
}

// TestExpand holds how often a value of n events is got.
func TestExpand(t *testing.T) {
	for n := 1; n <= 45; n++ {
		r := newRig(t)
		r.opens("a", "b")
		value := "null"
		if n > 1 {
			value = "[ " + times(n-2, "null") + "]"
		}
		r.steps(2, value)
		for told := 0; told+n <= 40; told += n {
			r.gets([]string{"a", "b"}[told/n%2], value) // all names count
		}
		r.asked(2+2*n, 40/n*n)
		r.lacks(api.ErrExpand, "a", "b", "a")
	}
}

// TestExpandRefused holds that what is refused is not counted, so that a shorter
// value still fits.
func TestExpandRefused(t *testing.T) {
	r := newRig(t)
	r.opens("ten")
	r.steps(1, "[")
	r.opens("six")
	r.steps(2, "[")
	r.opens("one")
	r.steps(3, "1")
	r.steps(2, "2 3 4 ]")
	r.steps(1, "5 6 ]")
	long, short := "[ [ 1 2 3 4 ] 5 6 ]", "[ 1 2 3 4 ]"
	for range 3 {
		r.gets("ten", long)
	}
	r.asked(37, 30)
	r.gets("one", "1")
	r.lacks(api.ErrExpand, "ten", "ten") // 41
	r.gets("six", short)
	r.lacks(api.ErrExpand, "ten", "six") // 43
	for told := 38; told <= 40; told++ {
		r.gets("one", "1")
		r.lacks(api.ErrExpand, "ten", "six")
		r.asked(37, told)
	}
	r.lacks(api.ErrExpand, "one", "one")
	r.lacks(api.ErrAnchor, "none", "", "1") // ahead of ErrExpand
	r.opens("open")
	r.lacks(api.ErrAnchor, "open")
	r.steps(1, "null")
	r.lacks(api.ErrExpand, "open")
	r.asked(42, 40)
}

// TestExpandAtOnce holds that 40 events may be got at once, and no more.
func TestExpandAtOnce(t *testing.T) {
	r := newRig(t)
	r.opens("b")
	r.steps(1, "[")
	r.opens("a")
	r.steps(2, "[ "+times(38, `""`)+"]")
	r.steps(1, "]")
	r.lacks(api.ErrExpand, "b") // 42
	r.gets("a", "[", times(38, `""`), "]")
	r.lacks(api.ErrExpand, "a", "b")
	r.asked(84, 40)
}

// TestOverwritten holds that what is done to what Get returned is not seen.
func TestOverwritten(t *testing.T) {
	r := newRig(t)
	r.opens("a", "b")
	r.steps(2, `[ "x" 1 ]`)
	for range 3 {
		for _, name := range []string{"a", "b"} {
			l, e := r.Get(name)
			if got := checks.Written(l); e != api.OK || got != `[ "x" 1 ]` {
				t.Error(name, got, e)
			}
			for i := range l {
				l[i] = api.Event{Kind: 99, Text: "y", Val: "z"}
			}
			_ = append(l[:2], api.Event{Kind: 99})
			_ = append(l, api.Event{Kind: 99})
		}
	}
	r.asked(14, 24)
}

// TestApart holds that what Get returns shares no memory with what was handed
// in, or with what it returned before.
func TestApart(t *testing.T) {
	lying := map[*byte]string{}
	add := func(l []api.Event) {
		for _, x := range l {
			for _, text := range []string{x.Text, x.Val} {
				if p := unsafe.StringData(text); text != "" && lying[p] != "" {
					t.Error(text, "and", lying[p], "lie at one place")
				} else if text != "" {
					lying[p] = text
				}
			}
		}
	}
	r := newRig(t)
	r.opens("a")
	l := checks.Events(`<{u}e @{u}a="v" @b="" "x" >`)
	add(l)
	for _, x := range l {
		r.Step(x)
	}
	for range 3 {
		got, _ := r.Get("a")
		add(got)
	}
	if len(lying) != 20 {
		t.Error(len(lying))
	}
}

// TestUnchanged holds P10.4 while other things are stored and refused.
func TestUnchanged(t *testing.T) {
	r := newRig(t)
	r.opens("a")
	r.steps(1, `<e @k="v" >`)
	for i := range 13 {
		r.gets("a", `<e @k="v" >`)
		r.shuts(api.ErrTwice, "a")
		r.opens(letters[i+1])
		r.refuses(api.ErrEvents, `] @k="v" >`)
		r.steps(1, "null")
		r.steps(0, `] @k="v" >`)
	}
	r.lacks(api.ErrExpand, "a")
	r.gets("b", "null")
}

// TestIndependent holds that no Anchors knows of another.
func TestIndependent(t *testing.T) {
	r, other := newRig(t), newRig(t)
	r.opens("a", "b")
	other.opens("b")
	r.steps(2, "[")
	other.steps(1, "null")
	other.gets("b", "null")
	r.lacks(api.ErrAnchor, "b")
	r.steps(2, word(40))
	for range 38 {
		other.gets("b", "null")
	}
	r.steps(2, "]")
	other.lacks(api.ErrAnchor, "a")
	r.gets("b", "[", word(40), "]")
	other.asked(2, 39)
	r.asked(88, 3)
}
