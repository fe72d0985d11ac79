package match_test

import (
	"testing"

	"soffit/api"
	"soffit/match"
	"soffit/unary"
)

func num(n int) api.Value    { return api.Value{Kind: api.Number, Dec: api.Dec{N: n}} }
func txt(s string) api.Value { return api.Value{Kind: api.Text, Text: s} }
func bit(n int) api.Value    { return api.Value{Kind: api.Bool, N: n} }
func day(n int) api.Value    { return api.Value{Kind: api.Date, N: n} }

func tests(t *testing.T, s string) api.Tests {
	t.Helper()
	x, _, e := unary.Parse(s)
	if e != api.OK {
		t.Fatalf("%s: %d", s, e)
	}
	return x
}

func TestOneAndAll(t *testing.T) {
	null, half := api.Value{}, api.Value{Kind: api.Number, Dec: api.Dec{N: 15, Scale: 1}}
	for _, c := range []struct {
		s    string
		v    api.Value
		want bool
	}{
		{"5", num(5), true}, {"5", num(4), false}, {"5", null, false}, {"null", null, true}, {"null", num(0), false}, {"null", txt(""), false}, {"true", bit(1), true}, {"true", bit(0), false}, {"false", null, false}, {`"a"`, txt("a"), true}, {`"a"`, txt("b"), false}, {`"1"`, num(1), false}, {"1.50", half, true}, {`@"0001-01-02"`, day(1), true}, {`@"0001-01-02"`, num(1), false},
		{"< 5", num(4), true}, {"< 5", num(5), false}, {"< 5", num(6), false}, {"< 5", null, false}, {"< 5", day(1), false}, {"< 5", txt("1"), false}, {"< 5", bit(1), false}, {"<= 5", num(5), true}, {"<= 5", num(6), false}, {"<= 5", null, false}, {"> 1", half, true}, {"> 5", num(5), false}, {"> 5", num(4), false}, {"> 5", null, false}, {">= 5", num(5), true}, {">= 5", num(4), false}, {">= 5", day(9), false},
		{`< @"0001-01-02"`, day(0), true}, {`< @"0001-01-02"`, day(1), false}, {`>= @"0001-01-02"`, day(1), true}, {`>= @"0001-01-02"`, num(9), false},
		{"[1..3]", num(1), true}, {"[1..3]", num(3), true}, {"[1..3]", num(2), true}, {"[1..3]", num(0), false}, {"[1..3]", num(4), false}, {"(1..3)", num(1), false}, {"(1..3)", num(3), false}, {"(1..3)", half, true}, {"]1..3[", num(3), false}, {"(1..3]", num(3), true}, {"[1..3)", num(1), true}, {"[3..1]", num(2), false}, {"[1..1]", num(1), true}, {"(1..1]", num(1), false}, {"[1..3]", null, false}, {"[1..3]", day(2), false}, {`[@"0001-01-02"..@"0001-01-03"]`, day(2), true}, {`[@"0001-01-02"..@"0001-01-03"]`, day(3), false},
		{"-", null, true}, {"-", num(1), true}, {"-", txt("x"), true}, {"1, 3", num(3), true}, {"1, 3", num(2), false}, {`1, "a", null`, null, true}, {"not(1, 3)", num(3), false}, {"not(1, 3)", num(2), true}, {"not(1)", null, true}, {"not(1)", txt("a"), true}, {"not(null)", null, false}, {"not(null)", num(1), true}, {"not(< 5)", null, true}, {"not(< 5)", num(4), false}, {"< 2, > 8", num(9), true}, {"< 2, > 8", num(5), false},
	} {
		x := tests(t, c.s)
		if got, e := match.All(x, c.v); got != c.want || e != api.OK {
			t.Errorf("All(%s, %v): %v, %d", c.s, c.v, got, e)
		}
		if x.Not || len(x.List) != 1 {
			continue
		}
		if got, e := match.One(x.List[0], c.v); got != c.want || e != api.OK {
			t.Errorf("One(%s, %v): %v, %d", c.s, c.v, got, e)
		}
	}
}

func TestRow(t *testing.T) {
	a, b, any := tests(t, "< 5"), tests(t, `"x"`), tests(t, "-")
	for _, c := range []struct {
		cells []api.Tests
		list  []api.Value
		want  bool
		e     api.Errno
	}{
		{nil, nil, true, 0}, {[]api.Tests{a, b}, []api.Value{num(1), txt("x")}, true, 0}, {[]api.Tests{a, b}, []api.Value{num(5), txt("x")}, false, 0}, {[]api.Tests{a, b}, []api.Value{num(1), txt("y")}, false, 0}, {[]api.Tests{a, b}, []api.Value{txt("x"), num(1)}, false, 0}, {[]api.Tests{any, any}, []api.Value{{}, num(1)}, true, 0},
		{[]api.Tests{a}, nil, false, api.ErrArg}, {nil, []api.Value{num(1)}, false, api.ErrArg}, {[]api.Tests{{}}, []api.Value{num(1), num(2)}, false, api.ErrArg}, {[]api.Tests{a, {}}, []api.Value{num(9), num(1)}, false, api.ErrForm}, {[]api.Tests{a, b}, []api.Value{num(9), bit(2)}, false, api.ErrForm}, {[]api.Tests{{}, b}, []api.Value{num(1), txt("x")}, false, api.ErrForm}, {[]api.Tests{any}, []api.Value{{N: 1}}, false, api.ErrForm},
	} {
		if got, e := match.Row(c.cells, c.list...); got != c.want || e != c.e {
			t.Errorf("%v, %v: %v, %d", c.cells, c.list, got, e)
		}
	}
}

func TestUnsound(t *testing.T) {
	good := api.Test{Kind: api.IsValue, Low: num(1)}
	for _, x := range []api.Test{{}, {Kind: 7, Low: num(1)}, {Kind: api.IsLess, Low: txt("a")}, {Kind: api.IsBetween, Low: num(1)}, {Kind: api.IsValue, Low: bit(2)}} {
		if got, e := match.One(x, num(1)); got || e != api.ErrForm {
			t.Errorf("One(%v): %v, %d", x, got, e)
		}
		if got, e := match.All(api.Tests{List: []api.Test{good, x}}, num(1)); got || e != api.ErrForm {
			t.Errorf("All(%v): %v, %d", x, got, e)
		}
	}
	for _, v := range []api.Value{{N: 1}, bit(2), day(-1), txt("\x01"), {Kind: 9}} {
		if got, e := match.One(good, v); got || e != api.ErrForm {
			t.Errorf("One of %v: %v, %d", v, got, e)
		}
		if got, e := match.All(api.Tests{Any: true}, v); got || e != api.ErrForm {
			t.Errorf("All of %v: %v, %d", v, got, e)
		}
	}
	for _, x := range []api.Tests{{}, {Not: true}, {Any: true, Not: true}} {
		if got, e := match.All(x, num(1)); got || e != api.ErrForm {
			t.Errorf("%v: %v, %d", x, got, e)
		}
	}
}
