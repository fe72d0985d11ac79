package words_test

import (
	"math/rand"
	"slices"
	"strconv"
	"strings"
	"testing"

	"soffit/api"
	"soffit/words"
)

func same(a, b api.Words) bool { return a.All == b.All && slices.Equal(a.List, b.List) }

func some(list ...string) api.Words { return api.Words{List: list} }
func but(list ...string) api.Words  { return api.Words{All: true, List: list} }

func TestMake(t *testing.T) {
	long := strings.Repeat("a", 256)
	for _, all := range []bool{false, true} {
		in := []string{"b", "a", "\x01", "b", "", "\xff", long + "a", long, "é", "Z"}
		got := words.Make(all, in...)
		if !same(got, api.Words{All: all, List: []string{"", "Z", "a", long, "b", "é"}}) {
			t.Errorf("%v", got)
		}
		if in[0] != "b" || in[1] != "a" {
			t.Error("the argument was changed")
		}
		if !same(words.Make(all), api.Words{All: all}) {
			t.Errorf("none: %v", words.Make(all))
		}
	}
}

func TestHas(t *testing.T) {
	for _, c := range []struct {
		w    api.Words
		s    string
		want bool
	}{
		{some("b", "a"), "a", true}, {some("b", "a"), "c", false}, {some(), "", false}, {some(""), "", true}, {but("b", "a"), "a", false}, {but("b", "a"), "c", true}, {but(), "", true},
		{some("\x01"), "\x01", false}, {but(), "\x01", false}, {but(), strings.Repeat("a", 257), false}, {but(), strings.Repeat("a", 256), true}, {some("\xff"), "\xff", false},
	} {
		if words.Has(c.w, c.s) != c.want {
			t.Errorf("Has(%v, %q) is not %v", c.w, c.s, c.want)
		}
	}
}

func TestMeetOtherEmpty(t *testing.T) {
	for _, c := range []struct{ a, b, want api.Words }{
		{some("b", "a", "a"), some("c", "a", "b"), some("a", "b")}, {some("a"), some("b"), some()}, {some("c", "a", "b"), but("b"), some("a", "c")}, {but("b"), some("c", "a", "b"), some("a", "c")}, {but("b", "a"), but("c", "a"), but("a", "b", "c")}, {but(), but(), but()},
		{some("\x01", "a"), some("\x01", "a"), some("a")}, {some("\x01", "a"), but("b"), some("a")}, {but("\x01"), but("\xff"), but()}, {some("a"), but("\x01", "a"), some()}, {some(), but(), some()},
	} {
		if got := words.Meet(c.a, c.b); !same(got, c.want) {
			t.Errorf("Meet(%v, %v): %v", c.a, c.b, got)
		}
	}
	for _, c := range []struct{ w, want api.Words }{{some("b", "a", "b"), but("a", "b")}, {but("b", "\x01"), some("b")}, {some(), but()}, {but(), some()}} {
		if got := words.Other(c.w); !same(got, c.want) {
			t.Errorf("Other(%v): %v", c.w, got)
		}
	}
	for _, c := range []struct {
		w    api.Words
		want bool
	}{{some(), true}, {some("\x01"), true}, {some("\x01", "a"), false}, {some(""), false}, {but(), false}, {but("a"), false}} {
		if words.Empty(c.w) != c.want {
			t.Errorf("Empty(%v) is not %v", c.w, c.want)
		}
	}
}

func TestMemory(t *testing.T) {
	a := some("a", "b")
	for i, w := range []api.Words{words.Make(false, a.List...), words.Meet(a, but()), words.Meet(but(), a), words.Other(a)} {
		w.List[0] = "x"
		if a.List[0] != "a" {
			t.Fatalf("%d shares memory", i)
		}
	}
}

func TestSomeSets(t *testing.T) {
	r := rand.New(rand.NewSource(4))
	names := []string{"", "a", "b", "c", "d", "\x01"}
	random := func() api.Words {
		w := api.Words{All: r.Intn(2) == 0}
		for range r.Intn(5) {
			w.List = append(w.List, names[r.Intn(len(names))])
		}
		return w
	}
	for range 2000 {
		a, b := random(), random()
		m, o := words.Meet(a, b), words.Other(a)
		if m.All != (a.All && b.All) || o.All == a.All || !same(m, words.Make(m.All, m.List...)) || !same(o, words.Make(o.All, o.List...)) {
			t.Fatalf("%v, %v: %v, %v", a, b, m, o)
		}
		none := true
		for _, s := range append(names, "z") {
			none = none && !words.Has(a, s)
			if words.Has(m, s) != (words.Has(a, s) && words.Has(b, s)) || s != "\x01" && words.Has(o, s) == words.Has(a, s) {
				t.Fatalf("%q: %v, %v: %v, %v", s, a, b, m, o)
			}
		}
		if words.Empty(a) != none {
			t.Fatalf("Empty(%v)", a)
		}
		if s, e := words.Pick(a); (e == api.OK) == none || e == api.OK && !words.Has(a, s) {
			t.Fatalf("Pick(%v): %q, %d", a, s, e)
		}
	}
}

func TestPick(t *testing.T) {
	for _, c := range []struct {
		w    api.Words
		want string
		e    api.Errno
	}{
		{some(), "", api.ErrNone}, {some("\x01"), "", api.ErrNone}, {some("b", "a"), "a", 0}, {some("b", "\x01"), "b", 0}, {some("b", ""), "", 0}, {but(), "", 0}, {but("a"), "", 0}, {but("", "aa"), "a", 0}, {but("a", ""), "aa", 0}, {but("b", "", "\x01"), "a", 0},
	} {
		if got, e := words.Pick(c.w); got != c.want || e != c.e {
			t.Errorf("Pick(%v): %q, %d", c.w, got, e)
		}
	}
	w := but()
	for n := range 257 {
		w.List = append(w.List, strings.Repeat("a", n))
	}
	for n := range 12 {
		w.List = append(w.List, strconv.Itoa(n))
	}
	if s, e := words.Pick(w); e != api.OK || !words.Has(w, s) {
		t.Errorf("without a, aa, ..: %q, %d", s, e)
	}
	w.List = w.List[1:]
	if s, e := words.Pick(w); s != "" || e != api.OK {
		t.Errorf("the empty string: %q, %d", s, e)
	}
	if s, e := words.Pick(but(w.List[:254]...)); s != "" || e != api.OK {
		t.Errorf("%q, %d", s, e)
	}
	if s, e := words.Pick(but(append(w.List[:255:255], "")...)); s != strings.Repeat("a", 256) || e != api.OK {
		t.Errorf("the longest: %d, %d", len(s), e)
	}
}
