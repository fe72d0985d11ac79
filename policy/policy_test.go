package policy_test

import (
	"math"
	"testing"

	"soffit/api"
	"soffit/policy"
)

func num(n int) api.Value    { return api.Value{Kind: api.Number, Dec: api.Dec{N: n}} }
func txt(s string) api.Value { return api.Value{Kind: api.Text, Text: s} }
func bit(n int) api.Value    { return api.Value{Kind: api.Bool, N: n} }
func day(n int) api.Value    { return api.Value{Kind: api.Date, N: n} }

func TestKnown(t *testing.T) {
	known := map[int]int{'U': 1, 'A': 1, 'P': 1, 'F': 1, '+': 1, '<': 1, '>': 1, '#': 1}
	for n := -300; n <= 300; n++ {
		if policy.Known(n) != (known[n] == 1) {
			t.Errorf("Known(%d)", n)
		}
	}
	if policy.Known(math.MaxInt) || policy.Known(math.MinInt) || policy.Known('U'+1<<32) {
		t.Error("great numbers")
	}
}

func TestOutcome(t *testing.T) {
	null, def := api.Value{}, txt("def")
	texts := []api.Value{txt("a"), txt("b"), txt("a"), null, txt("c")}
	order := []api.Value{txt("z"), txt("c"), txt("b")}
	numbers := []api.Value{num(5), num(-2), num(5), {Kind: api.Number, Dec: api.Dec{N: 15, Scale: 1}}, num(api.MaxCoef), txt("x"), null}
	for _, c := range []struct {
		policy  int
		outputs []api.Value
		fired   []int
		want    api.Value
	}{
		{'#', texts, nil, num(0)}, {'#', texts, []int{0, 3}, num(2)}, {'#', nil, nil, num(0)},
		{'U', texts, nil, def}, {'A', texts, nil, def}, {'P', texts, nil, def}, {'F', texts, nil, def}, {'+', numbers, nil, def}, {'<', numbers, nil, def}, {'>', nil, nil, def},
		{'U', texts, []int{1}, txt("b")}, {'U', texts, []int{3}, null}, {'U', texts, []int{0, 2}, null}, {'U', texts, []int{0, 1}, null},
		{'A', texts, []int{0, 2}, txt("a")}, {'A', texts, []int{0, 1}, null}, {'A', texts, []int{0, 3}, null}, {'A', texts, []int{3}, null}, {'A', texts, []int{4}, txt("c")},
		{'F', texts, []int{1, 2}, txt("b")}, {'F', texts, []int{3, 4}, null},
		{'P', texts, []int{0, 1, 4}, txt("c")}, {'P', texts, []int{0, 1}, txt("b")}, {'P', texts, []int{0, 3}, txt("a")}, {'P', texts, []int{3}, null}, {'P', texts, []int{2, 3, 4}, txt("c")},
		{'+', numbers, []int{0, 1, 2, 3}, api.Value{Kind: api.Number, Dec: api.Dec{N: 95, Scale: 1}}}, {'+', numbers, []int{1}, num(-2)}, {'+', numbers, []int{0, 4}, null}, {'+', numbers, []int{0, 5}, null}, {'+', numbers, []int{0, 6}, null}, {'+', numbers, []int{6}, null}, {'+', []api.Value{num(api.MaxCoef), num(1), num(-1)}, []int{0, 1, 2}, null}, {'+', []api.Value{num(api.MaxCoef), num(-1), num(1)}, []int{0, 1, 2}, num(api.MaxCoef)},
		{'<', numbers, []int{0, 1, 3}, num(-2)}, {'>', numbers, []int{0, 1, 3}, num(5)}, {'<', numbers, []int{0, 5}, null}, {'>', numbers, []int{5, 6}, null}, {'<', numbers, []int{6}, null}, {'<', texts, []int{0, 1, 4}, txt("a")}, {'>', texts, []int{0, 1, 4}, txt("c")}, {'>', texts, []int{0, 3}, null}, {'<', []api.Value{bit(1), bit(0)}, []int{0, 1}, bit(0)}, {'>', []api.Value{day(1), day(9), day(3)}, []int{0, 1, 2}, day(9)}, {'<', []api.Value{num(1), bit(0)}, []int{0, 1}, null},
	} {
		if got, e := policy.Outcome(c.policy, c.outputs, order, def, c.fired...); got != c.want || e != api.OK {
			t.Errorf("%c, %v: %v, %d", c.policy, c.fired, got, e)
		}
	}
	if got, e := policy.Outcome('P', texts, []api.Value{null, txt("a")}, def, 0, 3); got != null || e != api.OK {
		t.Errorf("null in order: %v, %d", got, e)
	}
}

func TestWrongArguments(t *testing.T) {
	good, bad := []api.Value{num(1), num(2)}, []api.Value{num(1), bit(2)}
	for i, c := range []struct {
		policy         int
		outputs, order []api.Value
		def            api.Value
		fired          []int
		e              api.Errno
	}{
		{0, good, nil, api.Value{}, nil, api.ErrArg}, {'u', good, nil, api.Value{}, nil, api.ErrArg}, {'F', good, nil, api.Value{}, []int{2}, api.ErrArg}, {'F', good, nil, api.Value{}, []int{-1}, api.ErrArg}, {'F', good, nil, api.Value{}, []int{1, 0}, api.ErrArg}, {'F', good, nil, api.Value{}, []int{1, 1}, api.ErrArg}, {'#', good, nil, api.Value{}, []int{0, math.MaxInt}, api.ErrArg}, {'#', good, nil, api.Value{}, []int{math.MinInt}, api.ErrArg}, {'F', nil, nil, api.Value{}, []int{0}, api.ErrArg},
		{'F', bad, nil, api.Value{}, []int{0}, api.ErrForm}, {'#', bad, nil, api.Value{}, nil, api.ErrForm}, {'F', good, bad, api.Value{}, []int{0}, api.ErrForm}, {'F', good, nil, bad[1], []int{0}, api.ErrForm}, {'F', bad, nil, api.Value{}, []int{5}, api.ErrArg}, {9, bad, nil, api.Value{}, nil, api.ErrArg},
	} {
		if got, e := policy.Outcome(c.policy, c.outputs, c.order, c.def, c.fired...); got != (api.Value{}) || e != c.e {
			t.Errorf("%d: %v, %d", i, got, e)
		}
	}
}
