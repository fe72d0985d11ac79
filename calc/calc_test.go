package calc_test

import (
	"testing"

	"soffit/api"
	"soffit/calc"
	"soffit/expr"
	"soffit/value"
)

func num(n int) api.Value    { return api.Value{Kind: api.Number, Dec: api.Dec{N: n}} }
func txt(s string) api.Value { return api.Value{Kind: api.Text, Text: s} }
func bit(n int) api.Value    { return api.Value{Kind: api.Bool, N: n} }
func day(n int) api.Value    { return api.Value{Kind: api.Date, N: n} }

func TestEqualAndLess(t *testing.T) {
	null, yes, no := api.Value{}, bit(1), bit(0)
	for _, c := range []struct{ a, b, equal, less api.Value }{
		{null, null, yes, null}, {null, num(0), no, null}, {txt(""), null, no, null}, {num(1), txt("1"), null, null}, {num(1), num(1), yes, no}, {num(1), num(2), no, yes}, {num(2), num(1), no, no},
		{api.Value{Kind: api.Number, Dec: api.Dec{N: 15, Scale: 1}}, num(2), no, yes}, {txt("a"), txt("b"), no, yes}, {txt("b"), txt("a"), no, no}, {txt("a"), txt("a"), yes, no}, {txt("B"), txt("a"), no, yes},
		{yes, yes, yes, null}, {no, yes, no, null}, {day(1), day(2), no, yes}, {day(2), day(2), yes, no}, {day(1), num(1), null, null}, {day(0), bit(0), null, null},
		{api.Value{N: 1}, api.Value{N: 1}, null, null}, {bit(2), bit(2), null, null}, {null, bit(2), null, null}, {api.Value{Kind: 7}, null, null, null}, {num(1), api.Value{Kind: api.Number, Dec: api.Dec{N: 20, Scale: 1}}, null, null},
	} {
		if got := calc.Equal(c.a, c.b); got != c.equal {
			t.Errorf("Equal(%v, %v): %v", c.a, c.b, got)
		}
		if got := calc.Equal(c.b, c.a); got != c.equal {
			t.Errorf("Equal(%v, %v): %v", c.b, c.a, got)
		}
		if got := calc.Less(c.a, c.b); got != c.less {
			t.Errorf("Less(%v, %v): %v", c.a, c.b, got)
		}
	}
}

func TestEval(t *testing.T) {
	list := []api.Binding{{Name: "a", Value: num(6)}, {Name: "b", Value: num(4)}, {Name: "a", Value: num(99)}, {Name: "s", Value: txt("x")}, {Name: "n"}, {Name: "t", Value: bit(1)}, {Name: "f", Value: bit(0)}, {Name: "d", Value: day(5)}, {Name: "not a name"}}
	for s, want := range map[string]string{
		"1.5": "1.5", `"x"`: `"x"`, "null": "null", "a": "6", "n": "null", "-a": "-6", "--a": "6", "-s": "null", "-n": "null", "-t": "null", "-d": "null", "a + b": "10", "a - b": "2", "b - a": "-2", "a * b": "24", "a / b": "1.5", "1 / 3": "0.333333", "-0": "0",
		"a / 0": "null", "a + s": "null", "n + 1": "null", "s + s": "null", "d - d": "null", "999999999999 + 1": "null", "1 - -999999999999": "null", "1000000 * 1000000": "null", "0 - 999999999999 - 1": "null", "s * 2": "null", "2 / s": "null", "(a / 0) + 1": "null",
		"a = 6": "true", "a = 6.0": "true", "a != 6": "false", "a = s": "null", "a != s": "null", "n = null": "true", "n != null": "false", "a = n": "false", "a != n": "true", "a / 0 = n": "true", "t = true": "true",
		"a < b": "false", "b < a": "true", "a < a": "false", "a <= a": "true", "a <= b": "false", "b <= a": "true", "a > b": "true", "a > a": "false", "a >= a": "true", "b >= a": "false", `s < "y"`: "true", `d >= @"0001-01-06"`: "true", "s < 1": "null", "s <= 1": "null", "n >= n": "null", "n < 1": "null", "t > f": "null", "t >= f": "null",
		"t and t": "true", "t and f": "false", "n and f": "false", "n and t": "null", "f or f": "false", "n or t": "true", "n or f": "null", "a or t": "true", "a and t": "null", "not(t)": "false", "not(f)": "true", "not(n)": "null", "not(a)": "null",
		"if t then 1 else 2": "1", "if f then 1 else 2": "2", "if n then 1 else 2": "2", "if a then 1 else 2": "2", "if t then a else a / 0": "6", "if a > b and t then s else d": `"x"`,
	} {
		x, _, e := expr.Parse(s)
		if e != api.OK {
			t.Fatalf("%s: %d", s, e)
		}
		v, e := calc.Eval(x, list...)
		if got, _ := value.Text(v); got != want || e != api.OK {
			t.Errorf("%s: %s, %d", s, got, e)
		}
	}
}

func TestWrongEval(t *testing.T) {
	x, _, _ := expr.Parse("a + b")
	for _, c := range []struct {
		x    api.Expr
		list []api.Binding
		e    api.Errno
	}{
		{api.Expr{}, nil, api.ErrForm}, {x, nil, api.ErrName}, {x, []api.Binding{{Name: "a", Value: num(1)}}, api.ErrName}, {x, []api.Binding{{Name: "b", Value: num(1)}, {Name: "c"}}, api.ErrName},
		{x, []api.Binding{{Name: "c", Value: bit(2)}}, api.ErrForm}, {x, []api.Binding{{Name: "a"}, {Name: "b"}, {Name: "b", Value: api.Value{Kind: 9}}}, api.ErrForm},
		{api.Expr{Op: api.OpIf, Kids: []api.Expr{{Op: api.OpValue}, {Op: api.OpName, Name: "q"}, {Op: api.OpValue}}}, nil, api.ErrName}, {api.Expr{Op: api.OpNeg}, []api.Binding{{Name: "a"}}, api.ErrForm},
	} {
		if v, e := calc.Eval(c.x, c.list...); v != (api.Value{}) || e != c.e {
			t.Errorf("%v: %v, %d", c.x, v, e)
		}
	}
	if v, e := calc.Eval(api.Expr{Op: api.OpValue, Value: num(1)}); v != num(1) || e != api.OK {
		t.Errorf("no bindings: %v, %d", v, e)
	}
}
