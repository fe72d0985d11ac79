package unary_test

import (
	"reflect"
	"slices"
	"strings"
	"testing"

	"soffit/api"
	"soffit/unary"
)

func num(n int) api.Value     { return api.Value{Kind: api.Number, Dec: api.Dec{N: n}} }
func txt(s string) api.Value  { return api.Value{Kind: api.Text, Text: s} }
func day(n int) api.Value     { return api.Value{Kind: api.Date, N: n} }
func is(v api.Value) api.Test { return api.Test{Kind: api.IsValue, Low: v} }
func between(low, high api.Value, openLow, openHigh bool) api.Test {
	return api.Test{Kind: api.IsBetween, Low: low, High: high, OpenLow: openLow, OpenHigh: openHigh}
}
func list(tests ...api.Test) api.Tests { return api.Tests{List: tests} }
func not(tests ...api.Test) api.Tests  { return api.Tests{Not: true, List: tests} }

func TestParse(t *testing.T) {
	for s, want := range map[string]api.Tests{
		"-": {Any: true}, " \t-\r\n": {Any: true}, strings.Repeat(" ", api.MaxText) + "-": {Any: true},
		"5": list(is(num(5))), "-5": list(is(num(-5))), " - 5": list(is(num(-5))), "-0": list(is(num(0))), `"a"`: list(is(txt("a"))), "null": list(is(api.Value{})),
		"true": list(is(api.Value{Kind: api.Bool, N: 1})), "false": list(is(api.Value{Kind: api.Bool})), `@"0001-01-02"`: list(is(day(1))),
		"< 5": list(api.Test{Kind: api.IsLess, Low: num(5)}), "<=-5": list(api.Test{Kind: api.IsAtMost, Low: num(-5)}), "> 5": list(api.Test{Kind: api.IsMore, Low: num(5)}), `>= @"0001-01-02"`: list(api.Test{Kind: api.IsAtLeast, Low: day(1)}),
		"[1..5]": list(between(num(1), num(5), false, false)), "(1 .. 5)": list(between(num(1), num(5), true, true)), "]1..5[": list(between(num(1), num(5), true, true)), "[-5..-1)": list(between(num(-5), num(-1), false, true)),
		"[5..1[": list(between(num(5), num(1), false, true)), `(@"0001-01-02"..@"0001-01-03"]`: list(between(day(1), day(2), true, false)),
		"1, \"a\", < 3": list(is(num(1)), is(txt("a")), api.Test{Kind: api.IsLess, Low: num(3)}), "1,1": list(is(num(1)), is(num(1))), "1,2,3,4,5,6,7,8": list(is(num(1)), is(num(2)), is(num(3)), is(num(4)), is(num(5)), is(num(6)), is(num(7)), is(num(8))),
		"not(5)": not(is(num(5))), "not ( 1 , (2..3) )": not(is(num(1)), between(num(2), num(3), true, true)), "not(null)": not(is(api.Value{})),
	} {
		if got, at, e := unary.Parse(s); !reflect.DeepEqual(got, want) || at != 0 || e != api.OK {
			t.Errorf("%.40q: %v, %d, %d", s, got, at, e)
		}
	}
}

func TestWrongTexts(t *testing.T) {
	for _, c := range []struct {
		s  string
		at int
		e  api.Errno
	}{
		{"", 0, api.ErrText}, {"  ", 2, api.ErrText}, {"abc", 0, api.ErrText}, {"5 6", 2, api.ErrText}, {"5,", 2, api.ErrText}, {", 5", 0, api.ErrText}, {"5,,6", 2, api.ErrText}, {"not", 3, api.ErrText}, {"not 5", 4, api.ErrText},
		{"not(5", 5, api.ErrText}, {"not(5))", 6, api.ErrText}, {"not(5) 6", 7, api.ErrText}, {"not(5), 6", 6, api.ErrText}, {"not()", 4, api.ErrText}, {"not(not(5))", 4, api.ErrText}, {"5, not(6)", 3, api.ErrText}, {"not(-)", 5, api.ErrText},
		{"< \"a\"", 2, api.ErrText}, {"< true", 2, api.ErrText}, {"< null", 2, api.ErrText}, {"< x", 2, api.ErrText}, {"<", 1, api.ErrText}, {"< < 5", 2, api.ErrText}, {"= 5", 0, api.ErrText}, {"!= 5", 0, api.ErrText}, {"< (5)", 2, api.ErrText}, {"+5", 0, api.ErrText},
		{"--5", 1, api.ErrText}, {"- -", 2, api.ErrText}, {"--", 1, api.ErrText}, {"-x", 1, api.ErrText}, {"- \"a\"", 2, api.ErrText}, {"5, -", 4, api.ErrText}, {"-, 5", 1, api.ErrText}, {"< -", 3, api.ErrText}, {"< -\"a\"", 3, api.ErrText}, {"5 - 3", 2, api.ErrText}, {"-5 -", 3, api.ErrText},
		{`< -@"2000-01-01"`, 3, api.ErrText}, {`[@"2000-01-01"..-5]`, 16, api.ErrText}, {`[@"2000-01-01"..-x]`, 17, api.ErrText}, {`[@"2000-01-01"..5]`, 16, api.ErrText}, {`[5..@"2000-01-01"]`, 4, api.ErrText},
		{"[1..\"a\"]", 4, api.ErrText}, {"[\"a\"..\"b\"]", 1, api.ErrText}, {"[1, 5]", 2, api.ErrText}, {"[1..5", 5, api.ErrText}, {"[1..5(", 5, api.ErrText}, {"[1..5,", 5, api.ErrText}, {")1..5)", 0, api.ErrText}, {"[1..", 4, api.ErrText}, {"[", 1, api.ErrText}, {"[1..2..3]", 5, api.ErrText}, {"1..5", 1, api.ErrText}, {"[1 - 5]", 3, api.ErrText}, {"[1..5 - 3]", 6, api.ErrText},
		{"1,2,3,4,5,6,7,8,9", 15, api.ErrLarge}, {"1,2,3,4,5,6,7,8,", 15, api.ErrLarge}, {"not(1,2,3,4,5,6,7,8,x)", 19, api.ErrLarge}, {"1,2,3,4,5,6,7,8 9", 16, api.ErrText}, {"1,2,3,4,5,6,7,8\",\"", 15, api.ErrText}, {"if", 0, api.ErrText},
		{"x $", 2, api.ErrText}, {"5, 1000000000000", 3, api.ErrRange}, {strings.Repeat(" ", api.MaxText+1), 0, api.ErrLarge},
	} {
		if got, at, e := unary.Parse(c.s); !reflect.DeepEqual(got, api.Tests{}) || at != c.at || e != c.e {
			t.Errorf("%.40q: %v, %d, %d, want %d, %d", c.s, got, at, e, c.at, c.e)
		}
	}
}

// unsound are tests that no function may take.
func unsound() []api.Tests {
	nine := make([]api.Test, 9)
	for i := range nine {
		nine[i] = is(num(i))
	}
	return []api.Tests{
		{}, {Not: true}, {Any: true, Not: true}, {Any: true, List: []api.Test{is(num(1))}}, list(nine...), list(api.Test{}), list(is(num(1)), api.Test{Kind: 7, Low: num(1)}), list(is(api.Value{Kind: 9})), list(is(api.Value{N: 1})),
		list(api.Test{Kind: api.IsLess, Low: txt("a")}), list(api.Test{Kind: api.IsAtMost}), list(api.Test{Kind: api.IsMore, Low: api.Value{Kind: api.Bool}}), list(api.Test{Kind: api.IsAtLeast, Low: day(-1)}), list(api.Test{Kind: api.IsLess, Low: num(1), High: num(1)}), list(api.Test{Kind: api.IsLess, Low: num(1), OpenLow: true}),
		list(api.Test{Kind: api.IsValue, Low: num(1), High: num(2)}), list(api.Test{Kind: api.IsValue, Low: num(1), OpenHigh: true}), list(between(num(1), day(1), false, false)), list(between(txt("a"), txt("b"), false, false)), list(between(num(1), api.Value{Kind: api.Number, Dec: api.Dec{N: 10, Scale: 1}}, false, false)), list(between(api.Value{}, api.Value{}, true, true)), list(api.Test{Kind: -1, Low: num(1)}),
	}
}

func TestSound(t *testing.T) {
	for _, x := range unsound() {
		if unary.Sound(x) {
			t.Errorf("%v is sound", x)
		}
		if s, e := unary.Text(x); s != "" || e != api.ErrForm {
			t.Errorf("%v: %q, %d", x, s, e)
		}
		if got := unary.Ends(x); len(got) != 0 {
			t.Errorf("%v: ends %v", x, got)
		}
	}
	for _, x := range []api.Tests{{Any: true}, {Any: true, List: []api.Test{}}, list(is(api.Value{})), not(is(txt("a")), between(day(5), day(1), true, false)), list(unsound()[4].List[:8]...)} {
		if !unary.Sound(x) {
			t.Errorf("%v is not sound", x)
		}
	}
}

func TestText(t *testing.T) {
	for s, want := range map[string]string{
		" - ": "-", "5,-1.50": "5, -1.5", "null,true,false": "null, true, false", `"a\"b"`: `"a\"b"`, "<5,<=5,>5,>=-5": "< 5, <= 5, > 5, >= -5", "[1..5],]1..5],[1..5[,(1 .. 5)": "[1..5], (1..5], [1..5), (1..5)",
		`not(@"2000-01-01", [-1.5..2])`: `not(@"2000-01-01", [-1.5..2])`, "not ( 5 )": "not(5)", `[@"2000-01-01"..@"2000-01-02")`: `[@"2000-01-01"..@"2000-01-02")`,
	} {
		x, _, e := unary.Parse(s)
		got, f := unary.Text(x)
		if got != want || e != api.OK || f != api.OK {
			t.Errorf("%s: %s, %d, %d", s, got, e, f)
		}
		if back, _, e := unary.Parse(got); e != api.OK || !unary.Same(back, x) {
			t.Errorf("%s: back %v, %d", s, back, e)
		}
	}
}

func TestEnds(t *testing.T) {
	x, _, _ := unary.Parse(`not("b", 5, [3..-2], "a", < 5, null, true, @"0001-01-01")`)
	want := []api.Value{{}, num(-2), num(3), num(5), txt("a"), txt("b"), {Kind: api.Bool, N: 1}, day(0)}
	if got := unary.Ends(x); !slices.Equal(got, want) {
		t.Errorf("%v", got)
	}
	if got := unary.Ends(api.Tests{Any: true}); len(got) != 0 {
		t.Errorf("any: %v", got)
	}
}

func TestSame(t *testing.T) {
	a := not(is(num(1)), is(num(2)))
	if !unary.Same(a, not(is(num(1)), is(num(2)))) || !unary.Same(api.Tests{Any: true}, api.Tests{Any: true, List: []api.Test{}}) {
		t.Error("equal tests are not the same")
	}
	for _, b := range []api.Tests{{}, {Any: true}, list(a.List...), not(is(num(2)), is(num(1))), not(is(num(1))), {Any: true, Not: true, List: a.List}} {
		if unary.Same(a, b) || unary.Same(b, a) {
			t.Errorf("%v is the same", b)
		}
	}
}
