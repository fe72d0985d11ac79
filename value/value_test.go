package value_test

import (
	"math"
	"slices"
	"strings"
	"testing"

	"soffit/api"
	"soffit/value"
)

func number(n, scale int) api.Value {
	return api.Value{Kind: api.Number, Dec: api.Dec{N: n, Scale: scale}}
}
func text(s string) api.Value { return api.Value{Kind: api.Text, Text: s} }
func truth(n int) api.Value   { return api.Value{Kind: api.Bool, N: n} }
func date(n int) api.Value    { return api.Value{Kind: api.Date, N: n} }

// rising are sound values in increasing order.
func rising() []api.Value {
	return []api.Value{
		{}, number(-api.MaxCoef, 0), number(-15, 1), number(-1, 0), number(0, 0), number(1, 6), number(2, 1), number(10, 0), number(api.MaxCoef, 0),
		text(""), text("a"), text("a\""), text("aa"), text("b"), text("é"), text("\U0010ffff"),
		truth(0), truth(1), date(0), date(5), date(api.MaxDay),
	}
}

// unsound are values that no function may take.
func unsound() []api.Value {
	return []api.Value{
		{N: 1}, {Text: "a"}, {Dec: api.Dec{N: 1}}, {Dec: api.Dec{Scale: 1}},
		number(10, 1), number(api.MaxCoef+1, 0), number(1, 7), {Kind: api.Number, N: 1}, {Kind: api.Number, Text: "1"},
		text("\x00"), text("\xff"), text(strings.Repeat("a", 257)), {Kind: api.Text, N: 1}, {Kind: api.Text, Dec: api.Dec{N: 1}},
		truth(2), truth(-1), {Kind: api.Bool, N: 1, Text: "x"}, {Kind: api.Bool, Dec: api.Dec{N: 1}},
		date(-1), date(api.MaxDay + 1), {Kind: api.Date, Text: "x"}, {Kind: api.Date, Dec: api.Dec{N: 1}},
		{Kind: 5}, {Kind: -1}, {Kind: math.MaxInt}, {Kind: math.MinInt},
	}
}

func TestSound(t *testing.T) {
	for _, v := range append(rising(), text(strings.Repeat("a", 256)), text(strings.Repeat("é", 128))) {
		if !value.Sound(v) {
			t.Errorf("%v is not sound", v)
		}
	}
	for _, v := range append(unsound(), text(strings.Repeat("é", 129))) {
		if value.Sound(v) {
			t.Errorf("%v is sound", v)
		}
	}
}

func TestCompare(t *testing.T) {
	list := rising()
	for i, a := range list {
		for j, b := range list {
			want := 0
			if i < j {
				want = -1
			} else if i > j {
				want = 1
			}
			if n, e := value.Compare(a, b); n != want || e != api.OK {
				t.Errorf("Compare(%v, %v): %d, %d", a, b, n, e)
			}
		}
		for _, b := range unsound() {
			if n, e := value.Compare(a, b); n != 0 || e != api.ErrForm {
				t.Errorf("Compare(%v, %v): %d, %d", a, b, n, e)
			}
			if n, e := value.Compare(b, a); n != 0 || e != api.ErrForm {
				t.Errorf("Compare(%v, %v): %d, %d", b, a, n, e)
			}
		}
	}
}

func TestSort(t *testing.T) {
	mixed := append(rising(), rising()...)
	slices.Reverse(mixed)
	kept := slices.Clone(mixed)
	got, e := value.Sort(mixed...)
	if e != api.OK || !slices.Equal(got, rising()) {
		t.Errorf("%v, %d", got, e)
	}
	if !slices.Equal(mixed, kept) {
		t.Error("the argument was changed")
	}
	if got, e := value.Sort(); len(got) != 0 || e != api.OK {
		t.Errorf("none: %v, %d", got, e)
	}
	for _, v := range unsound() {
		if got, e := value.Sort(append(rising(), v)...); got != nil || e != api.ErrForm {
			t.Errorf("with %v: %v, %d", v, got, e)
		}
	}
	one := []api.Value{text("a")}
	got, _ = value.Sort(one...)
	got[0] = text("b")
	if one[0] != text("a") {
		t.Error("the result shares memory with the argument")
	}
}

func TestText(t *testing.T) {
	for _, c := range []struct {
		v    api.Value
		want string
	}{
		{api.Value{}, "null"}, {number(-15, 1), "-1.5"}, {number(0, 0), "0"}, {text(""), `""`}, {text(`a"b\c'`), `"a\"b\\c'"`},
		{text(`\"`), `"\\\""`}, {text("x\ny<é"), "\"x\ny<é\""}, {truth(0), "false"}, {truth(1), "true"}, {date(0), `@"0001-01-01"`}, {date(730119), `@"2000-01-01"`},
	} {
		if s, e := value.Text(c.v); s != c.want || e != api.OK {
			t.Errorf("%v: %s, %d", c.v, s, e)
		}
	}
	for _, v := range unsound() {
		if s, e := value.Text(v); s != "" || e != api.ErrForm {
			t.Errorf("%v: %s, %d", v, s, e)
		}
	}
}

func TestFits(t *testing.T) {
	for _, c := range []struct {
		v           api.Value
		kind, scale int
		want        bool
	}{
		{api.Value{}, api.Number, 0, true}, {api.Value{}, 99, -1, true}, {api.Value{}, api.Null, 0, true},
		{number(15, 1), api.Number, 1, true}, {number(15, 1), api.Number, 2, true}, {number(15, 1), api.Number, 0, false}, {number(1, 0), api.Number, -1, false},
		{number(1, 0), api.Text, 0, false}, {text("a"), api.Text, -5, true}, {text("a"), api.Bool, 0, false}, {truth(1), api.Bool, 0, true},
		{date(1), api.Date, 0, true}, {date(1), api.Bool, 0, false}, {date(1), api.Null, 0, false},
	} {
		if value.Fits(c.v, c.kind, c.scale) != c.want {
			t.Errorf("Fits(%v, %d, %d) is not %v", c.v, c.kind, c.scale, c.want)
		}
	}
	for _, v := range unsound() {
		if value.Fits(v, v.Kind, api.MaxScale) {
			t.Errorf("%v fits", v)
		}
	}
}
