package sets_test

import (
	"math"
	"math/rand"
	"reflect"
	"slices"
	"strings"
	"testing"

	"soffit/api"
	"soffit/deci"
	"soffit/match"
	"soffit/sets"
	"soffit/unary"
)

func num(n, scale int) api.Value {
	return api.Value{Kind: api.Number, Dec: api.Dec{N: n, Scale: scale}}
}
func txt(s string) api.Value { return api.Value{Kind: api.Text, Text: s} }
func truth(n int) api.Value  { return api.Value{Kind: api.Bool, N: n} }
func day(n int) api.Value    { return api.Value{Kind: api.Date, N: n} }
func null() api.Value        { return api.Value{} }

func tests(t *testing.T, s string) api.Tests {
	t.Helper()
	x, _, e := unary.Parse(s)
	if e != api.OK {
		t.Fatalf("%s: %d", s, e)
	}
	return x
}

func kind(t *testing.T, kind, scale int, allowed string) api.Type {
	t.Helper()
	return api.Type{Kind: kind, Scale: scale, Allowed: tests(t, allowed)}
}

// unsound are types that no function may take.
func unsound() []api.Type {
	any := api.Tests{Any: true}
	return []api.Type{
		{}, {Kind: api.Number}, {Kind: api.Null, Allowed: any}, {Kind: 5, Allowed: any}, {Kind: -1, Allowed: any}, {Kind: api.Number, Scale: 7, Allowed: any}, {Kind: api.Number, Scale: -1, Allowed: any},
		{Kind: api.Text, Scale: 1, Allowed: any}, {Kind: api.Date, Scale: 1, Allowed: any}, {Kind: api.Bool, Scale: 6, Allowed: any}, {Kind: api.Text, Allowed: api.Tests{Any: true, Not: true}}, {Kind: math.MaxInt, Allowed: any},
	}
}

func TestSound(t *testing.T) {
	for _, x := range unsound() {
		if sets.Sound(x) {
			t.Errorf("%v is sound", x)
		}
		s := api.Set{Kind: x.Kind, Null: true}
		if sets.In(x, null()) || sets.Has(x, s, null()) {
			t.Errorf("%v has values", x)
		}
		a, e1 := sets.Full(x)
		b, e2 := sets.Of(x, api.Tests{Any: true})
		c, e3 := sets.One(x, null())
		d, e4 := sets.Other(x, s)
		v, e5 := sets.Pick(x, s)
		for i, e := range []api.Errno{e1, e2, e3, e4, e5} {
			if e != api.ErrForm {
				t.Errorf("%v, %d: %d", x, i, e)
			}
		}
		for i, s := range []api.Set{a, b, c, d} {
			if !reflect.DeepEqual(s, api.Set{}) || v != (api.Value{}) {
				t.Errorf("%v, %d: %v", x, i, s)
			}
		}
	}
	for _, x := range []api.Type{kind(t, api.Number, 6, "-"), kind(t, api.Text, 0, "5"), kind(t, api.Bool, 0, "true"), kind(t, api.Date, 0, "not(null)")} {
		if !sets.Sound(x) {
			t.Errorf("%v is not sound", x)
		}
	}
	if _, e := sets.Of(kind(t, api.Number, 0, "-"), api.Tests{}); e != api.ErrForm {
		t.Errorf("unsound tests: %d", e)
	}
}

func TestIn(t *testing.T) {
	n0, n6 := kind(t, api.Number, 0, "-"), kind(t, api.Number, 6, "-")
	for _, c := range []struct {
		t    api.Type
		v    api.Value
		want bool
	}{
		{n0, num(5, 0), true}, {n0, num(15, 1), false}, {n0, null(), true}, {n0, txt("a"), false}, {n0, num(api.MaxCoef, 0), true}, {n6, num(999999, 0), true}, {n6, num(999999999999, 6), true}, {n6, num(1000000, 0), false}, {n6, num(-1000000, 0), false}, {n6, num(-999999999999, 6), true}, {n0, num(10, 1), false}, {n0, api.Value{N: 1}, false},
		{kind(t, api.Number, 1, "[1..2)"), num(15, 1), true}, {kind(t, api.Number, 1, "[1..2)"), num(2, 0), false}, {kind(t, api.Number, 1, "[1..2)"), null(), true}, {kind(t, api.Number, 0, "not(null)"), null(), true}, {kind(t, api.Number, 0, `"a"`), num(1, 0), false}, {kind(t, api.Number, 0, `"a"`), txt("a"), false}, {kind(t, api.Number, 0, `not("a")`), num(1, 0), true},
		{kind(t, api.Text, 0, `"a", "b"`), txt("a"), true}, {kind(t, api.Text, 0, `"a", "b"`), txt("c"), false}, {kind(t, api.Bool, 0, "true"), truth(1), true}, {kind(t, api.Bool, 0, "true"), truth(0), false}, {kind(t, api.Bool, 0, "-"), truth(2), false}, {kind(t, api.Date, 0, `< @"0001-01-03"`), day(1), true}, {kind(t, api.Date, 0, `< @"0001-01-03"`), day(2), false},
	} {
		if sets.In(c.t, c.v) != c.want {
			t.Errorf("In(%v, %v) is not %v", c.t, c.v, c.want)
		}
		s, e := sets.One(c.t, c.v)
		if c.want != (e == api.OK) || !c.want && e != api.ErrRange {
			t.Errorf("One(%v, %v): %v, %d", c.t, c.v, s, e)
		}
		if c.want && !sets.Has(c.t, s, c.v) {
			t.Errorf("One(%v, %v) hasn't it: %v", c.t, c.v, s)
		}
	}
}

func spansOf(ends ...int) []api.Span {
	var out []api.Span
	for i := 0; i < len(ends); i += 2 {
		out = append(out, api.Span{Low: ends[i], High: ends[i+1]})
	}
	return out
}

func TestOf(t *testing.T) {
	number := func(null bool, ends ...int) api.Set {
		return api.Set{Kind: api.Number, Spans: spansOf(ends...), Null: null}
	}
	c := api.MaxCoef
	for _, x := range []struct {
		scale         int
		allowed, test string
		want          api.Set
	}{
		{0, "-", "-", number(true, -c, c)}, {0, "-", "5", number(false, 5, 5)}, {2, "-", "5", number(false, 500, 500)}, {0, "-", "5.5", number(false)}, {0, "-", "< 5", number(false, -c, 4)}, {0, "-", "< 5.5", number(false, -c, 5)}, {0, "-", "<= 5.5", number(false, -c, 5)}, {0, "-", "> 5.5", number(false, 6, c)}, {0, "-", ">= 5.5", number(false, 6, c)}, {0, "-", ">= 5", number(false, 5, c)}, {0, "-", "> 5", number(false, 6, c)}, {1, "-", "<= 5", number(false, -c, 50)}, {0, "-", "< -5.5", number(false, -c, -6)}, {0, "-", "> -5.5", number(false, -5, c)},
		{0, "-", "[1..3]", number(false, 1, 3)}, {0, "-", "(1..3)", number(false, 2, 2)}, {0, "-", "(1..2)", number(false)}, {0, "-", "[3..1]", number(false)}, {0, "-", "[0.5..2.5]", number(false, 1, 2)}, {0, "-", "(0.5..2.5)", number(false, 1, 2)}, {1, "-", "(0.5..2.5)", number(false, 6, 24)}, {0, "-", "1, 2, 4", number(false, 1, 2, 4, 4)}, {0, "-", "not(1, 2, 4)", number(true, -c, 0, 3, 3, 5, c)}, {0, "-", "null", number(true)}, {0, "-", "not(null)", number(false, -c, c)}, {0, "-", "null, 5", number(true, 5, 5)},
		{0, "-", `"a"`, number(false)}, {0, "-", `not("a")`, number(true, -c, c)}, {0, "-", `< @"2000-01-01"`, number(false)}, {0, "-", "true", number(false)}, {6, "-", "999999999999", number(false)}, {6, "-", "< 999999999999", number(false, -c, c)}, {6, "-", "> 999999999999", number(false)}, {6, "-", "> -999999999999", number(false, -c, c)},
		{0, "[1..9]", "-", number(true, 1, 9)}, {0, "[1..9]", "> 5", number(false, 6, 9)}, {0, "[1..9]", "not(5)", number(true, 1, 4, 6, 9)}, {0, "not(null)", "-", number(true, -c, c)}, {0, `"a"`, "-", number(true)}, {0, "not([1..9])", "[5..12]", number(false, 10, 12)},
	} {
		got, e := sets.Of(kind(t, api.Number, x.scale, x.allowed), tests(t, x.test))
		if e != api.OK || got.Kind != x.want.Kind || got.Null != x.want.Null || !slices.Equal(got.Spans, x.want.Spans) || got.Bools != 0 || got.Words.All || len(got.Words.List) != 0 {
			t.Errorf("%d, %s, %s: %v, %d", x.scale, x.allowed, x.test, got, e)
		}
	}
	s, _ := sets.Of(kind(t, api.Text, 0, "-"), tests(t, `not("b", "a", 5)`))
	if !s.Words.All || !slices.Equal(s.Words.List, []string{"a", "b"}) || !s.Null {
		t.Errorf("texts: %v", s)
	}
	s, _ = sets.Of(kind(t, api.Bool, 0, "-"), tests(t, "not(true)"))
	if s.Bools != 1 || !s.Null {
		t.Errorf("truths: %v", s)
	}
	s, _ = sets.Of(kind(t, api.Date, 0, `>= @"9999-12-30"`), tests(t, `not(@"9999-12-30")`))
	if !slices.Equal(s.Spans, spansOf(api.MaxDay, api.MaxDay)) || !s.Null {
		t.Errorf("days: %v", s)
	}
}

func TestMeetOtherEmpty(t *testing.T) {
	odd := api.Set{Kind: api.Bool, Bools: 0x7e, Spans: spansOf(1, 2), Words: api.Words{All: true, List: []string{"a"}}}
	if s, e := sets.Meet(odd, api.Set{Kind: api.Bool, Bools: -1, Null: true}); !reflect.DeepEqual(s, api.Set{Kind: api.Bool, Bools: 2}) || e != api.OK {
		t.Errorf("truths: %v, %d", s, e)
	}
	if s, e := sets.Meet(api.Set{Kind: api.Number, Spans: spansOf(5, 9, 1, 4, 3, 2), Bools: 3}, api.Set{Kind: api.Number, Spans: spansOf(0, 7)}); !reflect.DeepEqual(s, api.Set{Kind: api.Number, Spans: spansOf(1, 7)}) || e != api.OK {
		t.Errorf("numbers: %v, %d", s, e)
	}
	if s, e := sets.Meet(api.Set{Kind: api.Text, Words: api.Words{List: []string{"b", "a", "\x01"}}, Null: true}, api.Set{Kind: api.Text, Words: api.Words{All: true}, Null: true}); !reflect.DeepEqual(s, api.Set{Kind: api.Text, Words: api.Words{List: []string{"a", "b"}}, Null: true}) || e != api.OK {
		t.Errorf("texts: %v, %d", s, e)
	}
	for _, c := range [][2]int{{api.Number, api.Date}, {0, 0}, {5, 5}, {-1, -1}, {api.Text, 0}} {
		if s, e := sets.Meet(api.Set{Kind: c[0], Null: true}, api.Set{Kind: c[1], Null: true}); !reflect.DeepEqual(s, api.Set{}) || e != api.ErrArg {
			t.Errorf("%v: %v, %d", c, s, e)
		}
	}
	n := kind(t, api.Number, 0, "[1..9]")
	if s, e := sets.Other(n, api.Set{Kind: api.Number, Spans: spansOf(3, 4, -5, 1), Null: true}); !reflect.DeepEqual(s, api.Set{Kind: api.Number, Spans: spansOf(2, 2, 5, 9)}) || e != api.OK {
		t.Errorf("Other: %v, %d", s, e)
	}
	if s, e := sets.Other(n, api.Set{Kind: api.Date}); !reflect.DeepEqual(s, api.Set{}) || e != api.ErrArg {
		t.Errorf("Other of another kind: %v, %d", s, e)
	}
	for _, c := range []struct {
		s    api.Set
		want bool
	}{
		{api.Set{}, true}, {api.Set{Null: true}, true}, {api.Set{Kind: 5, Null: true, Bools: 3}, true}, {api.Set{Kind: api.Number}, true}, {api.Set{Kind: api.Number, Null: true}, false}, {api.Set{Kind: api.Number, Spans: spansOf(2, 1)}, true}, {api.Set{Kind: api.Number, Spans: spansOf(2, 1, 5, 5)}, false}, {api.Set{Kind: api.Number, Bools: 3, Words: api.Words{All: true}}, true},
		{api.Set{Kind: api.Date, Spans: spansOf(1, 1)}, false}, {api.Set{Kind: api.Text}, true}, {api.Set{Kind: api.Text, Spans: spansOf(1, 2)}, true}, {api.Set{Kind: api.Text, Words: api.Words{All: true}}, false}, {api.Set{Kind: api.Text, Words: api.Words{List: []string{"\x01"}}}, true}, {api.Set{Kind: api.Bool, Bools: 4}, true}, {api.Set{Kind: api.Bool, Bools: 2}, false}, {api.Set{Kind: -1, Null: true}, true},
	} {
		if sets.Empty(c.s) != c.want {
			t.Errorf("Empty(%v) is not %v", c.s, c.want)
		}
	}
}

func TestPick(t *testing.T) {
	n1, text, bools, date := kind(t, api.Number, 1, "-"), kind(t, api.Text, 0, "-"), kind(t, api.Bool, 0, "-"), kind(t, api.Date, 0, "-")
	for _, c := range []struct {
		t    api.Type
		s    api.Set
		want api.Value
		e    api.Errno
	}{
		{n1, api.Set{Kind: api.Number, Spans: spansOf(15, 99), Null: true}, num(15, 1), 0}, {n1, api.Set{Kind: api.Number, Spans: spansOf(5, 9, -5, -5)}, num(-5, 1), 0}, {n1, api.Set{Kind: api.Number, Spans: spansOf(-50, 99)}, num(0, 0), 0}, {n1, api.Set{Kind: api.Number, Spans: spansOf(10, 10)}, num(1, 0), 0}, {n1, api.Set{Kind: api.Number, Null: true}, null(), 0}, {n1, api.Set{Kind: api.Number}, null(), api.ErrNone}, {n1, api.Set{Kind: api.Number, Spans: spansOf(api.MaxCoef+1, math.MaxInt)}, null(), api.ErrNone}, {n1, api.Set{Kind: api.Number, Spans: spansOf(api.MaxCoef+1, math.MaxInt), Null: true}, null(), 0}, {n1, api.Set{Kind: api.Date, Null: true}, null(), api.ErrArg},
		{kind(t, api.Number, 0, "> 100"), api.Set{Kind: api.Number, Spans: spansOf(-5, 200)}, num(101, 0), 0},
		{text, api.Set{Kind: api.Text, Words: api.Words{All: true, List: []string{""}}, Null: true}, txt("a"), 0}, {text, api.Set{Kind: api.Text, Words: api.Words{List: []string{"z", "b"}}}, txt("b"), 0}, {text, api.Set{Kind: api.Text, Null: true}, null(), 0}, {text, api.Set{Kind: api.Text, Words: api.Words{List: []string{"\x01"}}}, null(), api.ErrNone}, {kind(t, api.Text, 0, `"q", "p"`), api.Set{Kind: api.Text, Words: api.Words{All: true}}, txt("p"), 0},
		{bools, api.Set{Kind: api.Bool, Bools: 3, Null: true}, truth(0), 0}, {bools, api.Set{Kind: api.Bool, Bools: 2}, truth(1), 0}, {bools, api.Set{Kind: api.Bool, Bools: 4, Null: true}, null(), 0}, {bools, api.Set{Kind: api.Bool, Bools: 4}, null(), api.ErrNone},
		{date, api.Set{Kind: api.Date, Spans: spansOf(0, api.MaxDay), Null: true}, day(730119), 0}, {date, api.Set{Kind: api.Date, Spans: spansOf(730121, 730130, 730117, 730117)}, day(730117), 0}, {date, api.Set{Kind: api.Date, Spans: spansOf(-9, -1)}, null(), api.ErrNone},
	} {
		if v, e := sets.Pick(c.t, c.s); v != c.want || e != c.e {
			t.Errorf("Pick(%v, %v): %v, %d", c.t, c.s, v, e)
		}
	}
}

func TestMemory(t *testing.T) {
	a := api.Set{Kind: api.Text, Words: api.Words{List: []string{"a", "b"}}}
	b := api.Set{Kind: api.Number, Spans: spansOf(1, 5)}
	m, _ := sets.Meet(a, a)
	n, _ := sets.Meet(b, b)
	o, _ := sets.Other(kind(t, api.Number, 0, "-"), b)
	m.Words.List[0], n.Spans[0].Low, o.Spans[0].Low = "x", 9, 9
	if a.Words.List[0] != "a" || b.Spans[0].Low != 1 {
		t.Error("a result shares memory with an argument")
	}
}

// points are values of all kinds, near the bounds that some tests have.
func points() []api.Value {
	list := []api.Value{null(), truth(0), truth(1), num(api.MaxCoef, 0), num(-api.MaxCoef, 0), num(api.MaxCoef, 1), num(999999, 0), num(api.MaxCoef, 6)}
	for n := -30; n <= 30; n++ {
		d, _ := deci.Make(n, 1)
		list = append(list, api.Value{Kind: api.Number, Dec: d})
	}
	for n := range 6 {
		list = append(list, day(n), txt(strings.Repeat("a", n)))
	}
	return append(list, num(25, 2), num(125, 2), day(api.MaxDay), txt("b"))
}

// someTests returns any tests, now and then of several kinds.
func someTests(r *rand.Rand) api.Tests {
	if r.Intn(6) == 0 {
		return api.Tests{Any: true}
	}
	list := points()
	x := api.Tests{Not: r.Intn(3) == 0}
	for range 1 + r.Intn(3) {
		for {
			one := api.Test{Kind: 1 + r.Intn(6), Low: list[r.Intn(len(list))]}
			if one.Kind == api.IsBetween {
				one.High, one.OpenLow, one.OpenHigh = list[r.Intn(len(list))], r.Intn(2) == 0, r.Intn(2) == 0
			}
			if unary.Sound(api.Tests{List: []api.Test{one}}) {
				x.List = append(x.List, one)
				break
			}
		}
	}
	return x
}

func TestSomeSets(t *testing.T) {
	r := rand.New(rand.NewSource(5))
	for range 4000 {
		ty := api.Type{Kind: 1 + r.Intn(4), Allowed: someTests(r)}
		if ty.Kind == api.Number {
			ty.Scale = []int{0, 1, 2, 6}[r.Intn(4)]
		}
		x, y := someTests(r), someTests(r)
		f, _ := sets.Full(ty)
		a, e1 := sets.Of(ty, x)
		b, e2 := sets.Of(ty, y)
		m, e3 := sets.Meet(a, b)
		o, e4 := sets.Other(ty, a)
		if e1 != 0 || e2 != 0 || e3 != 0 || e4 != 0 {
			t.Fatalf("%v: %d, %d, %d, %d", ty, e1, e2, e3, e4)
		}
		for _, v := range points() {
			in := sets.In(ty, v)
			hx, _ := match.All(x, v)
			hy, _ := match.All(y, v)
			if sets.Has(ty, f, v) != in || sets.Has(ty, a, v) != (in && hx) || sets.Has(ty, m, v) != (in && hx && hy) || sets.Has(ty, o, v) != (in && !hx) {
				t.Fatalf("%v: %v of %v, %v: %v, %v, %v", v, ty, x, y, a, m, o)
			}
			if sets.Has(ty, m, v) && sets.Empty(m) {
				t.Fatalf("%v is empty", m)
			}
		}
		v, e := sets.Pick(ty, m)
		if (e == api.OK) == sets.Empty(m) || e == api.OK && !sets.Has(ty, m, v) {
			t.Fatalf("Pick(%v, %v): %v, %d", ty, m, v, e)
		}
	}
}
