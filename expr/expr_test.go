package expr_test

import (
	"math/rand"
	"reflect"
	"slices"
	"strings"
	"testing"

	"soffit/api"
	"soffit/expr"
)

func num(n int) api.Expr {
	return api.Expr{Op: api.OpValue, Value: api.Value{Kind: api.Number, Dec: api.Dec{N: n}}}
}
func val(v api.Value) api.Expr             { return api.Expr{Op: api.OpValue, Value: v} }
func name(s string) api.Expr               { return api.Expr{Op: api.OpName, Name: s} }
func of(op int, kids ...api.Expr) api.Expr { return api.Expr{Op: op, Kids: kids} }
func neg(x api.Expr) api.Expr              { return of(api.OpNeg, x) }
func parens(n int, s string) string        { return strings.Repeat("(", n) + s + strings.Repeat(")", n) }
func check(t *testing.T, s string, x api.Expr) {
	t.Helper()
	if got, at, e := expr.Parse(s); !reflect.DeepEqual(got, x) || at != 0 || e != api.OK {
		t.Errorf("%s: %v, %d, %d", s, got, at, e)
	}
}

func TestParse(t *testing.T) {
	a, b, c := name("a"), name("b"), name("c")
	for s, want := range map[string]api.Expr{
		"1": num(1), "null": val(api.Value{}), "true": val(api.Value{Kind: api.Bool, N: 1}), "false": val(api.Value{Kind: api.Bool}),
		`"x"`: val(api.Value{Kind: api.Text, Text: "x"}), `@"2000-01-01"`: val(api.Value{Kind: api.Date, N: 730119}), " ( a ) ": a, "((a))": a,
		"-1": neg(num(1)), "- -a": neg(neg(a)), "--a": neg(neg(a)), "not(a)": of(api.OpNot, a), "not ( a )": of(api.OpNot, a), "not(not(a))": of(api.OpNot, of(api.OpNot, a)),
		"a + b - c": of(api.OpSub, of(api.OpAdd, a, b), c), "a - (b - c)": of(api.OpSub, a, of(api.OpSub, b, c)), "a * b / c": of(api.OpDiv, of(api.OpMul, a, b), c),
		"a + b * c": of(api.OpAdd, a, of(api.OpMul, b, c)), "(a + b) * c": of(api.OpMul, of(api.OpAdd, a, b), c), "-a * b": of(api.OpMul, neg(a), b), "a*-b": of(api.OpMul, a, neg(b)), "a--b": of(api.OpSub, a, neg(b)),
		"a or b and c": of(api.OpOr, a, of(api.OpAnd, b, c)), "a and b or c": of(api.OpOr, of(api.OpAnd, a, b), c), "a or b or c": of(api.OpOr, of(api.OpOr, a, b), c), "a and b and c": of(api.OpAnd, of(api.OpAnd, a, b), c),
		"a = b + c": of(api.OpEq, a, of(api.OpAdd, b, c)), "a != b": of(api.OpNe, a, b), "a < b": of(api.OpLt, a, b), "a <= b": of(api.OpLe, a, b), "a > b": of(api.OpGt, a, b), "a >= b": of(api.OpGe, a, b),
		"a < b and b = c": of(api.OpAnd, of(api.OpLt, a, b), of(api.OpEq, b, c)), "(a = b) = c": of(api.OpEq, of(api.OpEq, a, b), c), "-a = -b": of(api.OpEq, neg(a), neg(b)),
		"if a then b else c": of(api.OpIf, a, b, c), "if a or b then b + 1 else -c": of(api.OpIf, of(api.OpOr, a, b), of(api.OpAdd, b, num(1)), neg(c)),
		"if a then b else if b then c else a": of(api.OpIf, a, b, of(api.OpIf, b, c, a)), "if if a then b else c then a else b": of(api.OpIf, of(api.OpIf, a, b, c), a, b),
		"if a then if b then 1 else 2 else 3": of(api.OpIf, a, of(api.OpIf, b, num(1), num(2)), num(3)), "1 + (if a then b else c)": of(api.OpAdd, num(1), of(api.OpIf, a, b, c)), "if a then b else c + 1": of(api.OpIf, a, b, of(api.OpAdd, c, num(1))),
		parens(63, "a"): a, strings.Repeat("not(", 63) + "a" + strings.Repeat(")", 63): nots(63, a), strings.Repeat("-", 63) + "a": negs(63, a),
	} {
		check(t, s, want)
	}
}

func negs(n int, x api.Expr) api.Expr {
	for range n {
		x = neg(x)
	}
	return x
}

func nots(n int, x api.Expr) api.Expr {
	for range n {
		x = of(api.OpNot, x)
	}
	return x
}

// wide returns the text of a sum of so many names that is not deep.
func wide(names int) string {
	if names == 1 {
		return "a"
	}
	return "(" + wide(names/2) + ")+(" + wide(names-names/2) + ")"
}

func TestWrongTexts(t *testing.T) {
	for _, c := range []struct {
		s  string
		at int
		e  api.Errno
	}{
		{"", 0, api.ErrText}, {"  ", 2, api.ErrText}, {"a b", 2, api.ErrText}, {"a +", 3, api.ErrText}, {"a + ", 4, api.ErrText}, {"+ a", 0, api.ErrText}, {"a + + b", 4, api.ErrText}, {"a = b = c", 6, api.ErrText}, {"a < b > c", 6, api.ErrText},
		{"(a", 2, api.ErrText}, {"(a b", 3, api.ErrText}, {"a)", 1, api.ErrText}, {"()", 1, api.ErrText}, {"not a", 4, api.ErrText}, {"not", 3, api.ErrText}, {"not()", 4, api.ErrText}, {"not(a", 5, api.ErrText},
		{"1 + if a then b else c", 4, api.ErrText}, {"-if a then b else c", 1, api.ErrText}, {"if a then b", 11, api.ErrText}, {"if a else b", 5, api.ErrText}, {"if a then b then c", 12, api.ErrText}, {"if then", 3, api.ErrText}, {"then", 0, api.ErrText}, {"else", 0, api.ErrText}, {"and", 0, api.ErrText},
		{"a and or b", 6, api.ErrText}, {"a not(b)", 2, api.ErrText}, {"[a]", 0, api.ErrText}, {"a, b", 1, api.ErrText}, {"a .. b", 2, api.ErrText}, {"-", 1, api.ErrText}, {"-(", 2, api.ErrText}, {"(if a then b else c", 19, api.ErrText}, {"a = if", 4, api.ErrText}, {"null null", 5, api.ErrText},
		{"a + $", 4, api.ErrText}, {") $", 2, api.ErrText}, {") 1000000000000", 2, api.ErrRange}, {strings.Repeat(" ", api.MaxText) + ")", 0, api.ErrLarge},
		{parens(64, "a"), 64, api.ErrDeep}, {parens(64, ""), 64, api.ErrDeep}, {strings.Repeat("(", 64), 64, api.ErrDeep}, {strings.Repeat("(", 64) + " $", 65, api.ErrText}, {strings.Repeat("(", 63), 63, api.ErrText}, {strings.Repeat("( ", 70), 128, api.ErrDeep},
		{strings.Repeat("(", 63) + "not(a", 63 + 4, api.ErrDeep}, {strings.Repeat("(", 63) + "not a", 63 + 4, api.ErrText}, {strings.Repeat("not(", 64), 256, api.ErrDeep},
		{strings.Repeat("-", 64) + "a", 0, api.ErrDeep}, {"a" + strings.Repeat("+a", 64), 0, api.ErrDeep}, {strings.Repeat("if a then a else ", 64) + "a", 0, api.ErrDeep}, {"a" + strings.Repeat("+a", 64) + ")", 129, api.ErrText},
		{strings.Repeat("if ", 20000), 60000, api.ErrText}, {strings.Repeat("-", api.MaxText), api.MaxText, api.ErrText},
	} {
		if got, at, e := expr.Parse(c.s); !reflect.DeepEqual(got, api.Expr{}) || at != c.at || e != c.e {
			t.Errorf("%.30q: %v, %d, %d, want %d, %d", c.s, got.Op, at, e, c.at, c.e)
		}
	}
	check(t, "a"+strings.Repeat("+a", 63), sum(64))
	if x, _, e := expr.Parse(wide(2048)); e != api.OK || !expr.Sound(x) {
		t.Errorf("4095 parts: %d", e)
	}
	if _, _, e := expr.Parse("-(" + wide(2048) + ")"); e != api.OK {
		t.Errorf("4096 parts: %d", e)
	}
	for _, s := range []string{"-(-(" + wide(2048) + "))", wide(2049), "a" + strings.Repeat("+a", 4096), "not(" + wide(3000) + ")"} {
		if x, _, e := expr.Parse(s); !reflect.DeepEqual(x, api.Expr{}) || e != api.ErrLarge {
			t.Errorf("%.20s: %d", s, e)
		}
	}
}

func sum(n int) api.Expr {
	x := name("a")
	for range n - 1 {
		x = of(api.OpAdd, x, name("a"))
	}
	return x
}

func TestText(t *testing.T) {
	for s, want := range map[string]string{
		"a+b*c": "a + (b * c)", "not(a+b)": "not(a + b)", "not(a)": "not(a)", "-a": "-a", "--a": "-(-a)", "-(a+b)": "-(a + b)", "-not(a)": "-(not(a))", "not(not(a))": "not(not(a))",
		"if a then b else c": "if a then b else c", "if a=b then -c else if a then b else c": "if (a = b) then (-c) else (if a then b else c)", "(if a then b else c)+1": "(if a then b else c) + 1",
		"a or b and c": "a or (b and c)", "1<=2": "1 <= 2", "a!=b": "a != b", `@"2000-01-01">"x\""`: `@"2000-01-01" > "x\""`, "0.50-null": "0.5 - null", "true/false": "true / false", "a>=b": "a >= b", "a<b": "a < b",
	} {
		x, _, e := expr.Parse(s)
		if got, f := expr.Text(x); got != want || e != api.OK || f != api.OK {
			t.Errorf("%s: %s, %d, %d", s, got, e, f)
		}
	}
	for _, x := range unsound() {
		if s, e := expr.Text(x); s != "" || e != api.ErrForm {
			t.Errorf("%v: %q, %d", x.Op, s, e)
		}
	}
	long := val(api.Value{Kind: api.Text, Text: strings.Repeat("a", 256)})
	if s, e := expr.Text(tower(8, long)); s != "" || e != api.ErrLarge {
		t.Errorf("too long: %d", e)
	}
	if s, e := expr.Text(tower(7, long)); e != api.OK || len(s) != 128*258+127*3+126*2 {
		t.Errorf("long: %d, %d", len(s), e)
	}
}

func TestGreatestText(t *testing.T) {
	text := func(n int) api.Expr { return val(api.Value{Kind: api.Text, Text: strings.Repeat("a", n)}) }
	size := func(x api.Expr) int { s, _ := expr.Text(x); return len(s) }
	x := of(api.OpAdd, tower(6, text(256)), of(api.OpAdd, tower(6, text(256)), tower(6, text(200))))
	x = of(api.OpAdd, x, tower(5, text(241)))
	for size(x)+3+2+256 <= api.MaxText {
		x = of(api.OpAdd, x, text(min(256, api.MaxText-size(x)-3-2-2)))
	}
	last := api.MaxText - size(x) - len("() + ") - len(`""`)
	if got := of(api.OpAdd, x, text(last)); size(got) != api.MaxText {
		t.Errorf("the greatest text: %d of %d", size(got), last)
	}
	if s, e := expr.Text(of(api.OpAdd, x, text(last+1))); s != "" || e != api.ErrLarge {
		t.Errorf("one byte too many: %d, %d", len(s), e)
	}
}

// tower returns a sum of two to the power of n parts.
func tower(n int, x api.Expr) api.Expr {
	for range n {
		x = of(api.OpAdd, x, x)
	}
	return x
}

// unsound are expressions that no function may take.
func unsound() []api.Expr {
	kids := make([]api.Expr, 2)
	kids[0], kids[1] = of(api.OpAdd, kids...), name("a")
	endless := api.Expr{Op: api.OpAdd, Kids: kids}
	kids[0].Kids = kids
	return []api.Expr{
		{}, {Op: 18}, {Op: -1}, of(0, num(1), num(2)), of(18, num(1), num(2)), of(-1, num(1), num(2)), of(18, num(1)), of(0, num(1)), num(-1), val(api.Value{Kind: 9}), {Op: api.OpValue, Name: "a"}, {Op: api.OpValue, Kids: []api.Expr{num(1)}}, name("if"), name(""), name("1"),
		{Op: api.OpName, Name: "a", Value: api.Value{Kind: api.Bool}}, {Op: api.OpName, Name: "a", Kids: []api.Expr{num(1)}}, of(api.OpNeg), of(api.OpNeg, num(1), num(2)), of(api.OpNot), of(api.OpAdd, num(1)), of(api.OpAdd, num(1), num(2), num(3)),
		of(api.OpIf, num(1), num(2)), of(api.OpOr, num(1), api.Expr{}), {Op: api.OpNeg, Name: "a", Kids: []api.Expr{num(1)}}, {Op: api.OpNot, Value: api.Value{N: 1}, Kids: []api.Expr{num(1)}},
		negs(64, num(1)), tower(12, num(1)), tower(40, num(1)), endless,
	}
}

func TestSound(t *testing.T) {
	for i, x := range unsound() {
		if expr.Sound(x) {
			t.Errorf("%d is sound", i)
		}
		if got := expr.Names(x); len(got) != 0 {
			t.Errorf("%d has names %v", i, got)
		}
	}
	for i, x := range []api.Expr{num(0), val(api.Value{}), name("a"), negs(63, num(1)), tower(11, name("a")), neg(tower(11, name("a"))), of(api.OpIf, num(1), num(2), num(3))} {
		if !expr.Sound(x) {
			t.Errorf("%d is not sound", i)
		}
	}
}

func TestNames(t *testing.T) {
	x, _, _ := expr.Parse("if b then a + b else not(c) and Z")
	if got := expr.Names(x); !slices.Equal(got, []string{"Z", "a", "b", "c"}) {
		t.Errorf("%v", got)
	}
	if got := expr.Names(num(1)); len(got) != 0 {
		t.Errorf("%v", got)
	}
}

func TestSame(t *testing.T) {
	a := of(api.OpAdd, name("a"), num(1))
	if !expr.Same(a, of(api.OpAdd, api.Expr{Op: api.OpName, Name: "a", Kids: []api.Expr{}}, num(1))) || !expr.Same(api.Expr{}, api.Expr{Kids: []api.Expr{}}) {
		t.Error("equal expressions are not the same")
	}
	for _, b := range []api.Expr{{}, of(api.OpSub, name("a"), num(1)), of(api.OpAdd, name("b"), num(1)), of(api.OpAdd, name("a"), num(2)), of(api.OpAdd, num(1), name("a")), of(api.OpAdd, name("a")), {Op: api.OpAdd, Name: "x", Kids: a.Kids}, {Op: api.OpAdd, Value: api.Value{N: 1}, Kids: a.Kids}} {
		if expr.Same(a, b) || expr.Same(b, a) {
			t.Errorf("%v is the same", b)
		}
	}
	list := unsound()
	for i, x := range list {
		for j, y := range list {
			if expr.Same(x, y) != (i == j) {
				t.Errorf("%d and %d", i, j)
			}
		}
	}
}

// some returns any expression of at most a depth.
func some(r *rand.Rand, depth int) api.Expr {
	op := 1 + r.Intn(17)
	if depth == 1 {
		op = 1 + r.Intn(2)
	}
	switch op {
	case api.OpName:
		return name([]string{"a", "b_1", "If"}[r.Intn(3)])
	case api.OpValue:
		return val([]api.Value{{}, {Kind: api.Number, Dec: api.Dec{N: 25, Scale: 1}}, {Kind: api.Text, Text: `"\ or`}, {Kind: api.Bool, N: 1}, {Kind: api.Date, N: 9}}[r.Intn(5)])
	}
	x := api.Expr{Op: op}
	count := 2
	switch op {
	case api.OpNeg, api.OpNot:
		count = 1
	case api.OpIf:
		count = 3
	}
	for range count {
		x.Kids = append(x.Kids, some(r, depth-1))
	}
	return x
}

func TestThereAndBack(t *testing.T) {
	r := rand.New(rand.NewSource(2))
	for range 3000 {
		x := some(r, 1+r.Intn(6))
		s, e := expr.Text(x)
		if e == api.ErrLarge || !expr.Sound(x) {
			continue
		}
		back, _, f := expr.Parse(s)
		if !expr.Same(x, back) || e != api.OK || f != api.OK {
			t.Fatalf("%s: %v, %d, %d", s, back, e, f)
		}
	}
}
