package boxes_test

import (
	"math"
	"math/rand"
	"reflect"
	"testing"

	"soffit/api"
	"soffit/boxes"
	"soffit/sets"
)

func number() api.Type { return api.Type{Kind: api.Number, Allowed: api.Tests{Any: true}} }
func truth() api.Type  { return api.Type{Kind: api.Bool, Allowed: api.Tests{Any: true}} }
func two() []api.Type  { return []api.Type{number(), truth()} }
func num(n int) api.Value {
	return api.Value{Kind: api.Number, Dec: api.Dec{N: n}}
}
func bit(n int) api.Value { return api.Value{Kind: api.Bool, N: n} }
func span(low, high int) api.Set {
	return api.Set{Kind: api.Number, Spans: []api.Span{{Low: low, High: high}}}
}
func bools(n int) api.Set               { return api.Set{Kind: api.Bool, Bools: n} }
func box(list ...api.Set) []api.Set     { return list }
func all(list ...[]api.Set) [][]api.Set { return list }

func TestFullAndWith(t *testing.T) {
	c := api.MaxCoef
	full := box(api.Set{Kind: api.Number, Spans: []api.Span{{Low: -c, High: c}}, Null: true}, api.Set{Kind: api.Bool, Bools: 3, Null: true})
	if got, e := boxes.Full(two()); !reflect.DeepEqual(got, full) || e != api.OK {
		t.Errorf("Full: %v, %d", got, e)
	}
	if got, e := boxes.Full(nil); len(got) != 0 || e != api.OK {
		t.Errorf("Full of none: %v, %d", got, e)
	}
	if got, e := boxes.Full([]api.Type{number(), {}}); got != nil || e != api.ErrForm {
		t.Errorf("Full of an unsound type: %v, %d", got, e)
	}
	if got, e := boxes.With(two(), 0, span(5, 9)); !reflect.DeepEqual(got, box(span(5, 9), full[1])) || e != api.OK {
		t.Errorf("With: %v, %d", got, e)
	}
	if got, e := boxes.With(two(), 1, bools(6)); !reflect.DeepEqual(got, box(full[0], bools(2))) || e != api.OK {
		t.Errorf("With: %v, %d", got, e)
	}
	for _, x := range []struct {
		types []api.Type
		n     int
		s     api.Set
		e     api.Errno
	}{
		{two(), -1, span(1, 2), api.ErrArg}, {two(), 2, span(1, 2), api.ErrArg}, {two(), math.MaxInt, span(1, 2), api.ErrArg}, {two(), 1, span(1, 2), api.ErrArg}, {nil, 0, span(1, 2), api.ErrArg}, {two(), 0, api.Set{}, api.ErrArg},
		{[]api.Type{number(), {}}, 7, span(1, 2), api.ErrForm},
	} {
		if got, e := boxes.With(x.types, x.n, x.s); got != nil || e != x.e {
			t.Errorf("With(%d): %v, %d", x.n, got, e)
		}
	}
}

func TestEmpty(t *testing.T) {
	if boxes.Empty(nil) || boxes.Empty(box(span(1, 1), bools(1))) || !boxes.Empty(box(span(1, 1), bools(4))) || !boxes.Empty(box(span(2, 1), bools(1))) || !boxes.Empty(box(api.Set{Null: true})) {
		t.Error("Empty")
	}
}

func TestMeet(t *testing.T) {
	a := all(box(span(1, 9), bools(3)), box(span(20, 29), bools(1)), box(span(3, 3), bools(3)))
	b := all(box(span(5, 25), bools(3)), box(span(1, 3), bools(2)))
	want := all(box(span(5, 9), bools(3)), box(span(1, 3), bools(2)), box(span(20, 25), bools(1)), box(span(3, 3), bools(2)))
	for _, budget := range []int{api.Unlimited, 4, 5, math.MaxInt} {
		if got, e := boxes.Meet(a, b, budget); !reflect.DeepEqual(got, want) || e != api.OK {
			t.Errorf("%d: %v, %d", budget, got, e)
		}
	}
	for _, budget := range []int{0, 1, 3} {
		if got, e := boxes.Meet(a, b, budget); got != nil || e != api.ErrFull {
			t.Errorf("%d: %v, %d", budget, got, e)
		}
	}
	again := all(box(span(1, 9), bools(1)), box(span(0, 9), bools(1)), box(span(9, 8), bools(1)))
	if got, e := boxes.Meet(again, all(box(span(2, 3), bools(7))), 1); !reflect.DeepEqual(got, all(box(span(2, 3), bools(1)))) || e != api.OK {
		t.Errorf("one box twice: %v, %d", got, e)
	}
	if got, e := boxes.Meet(a, nil, 0); len(got) != 0 || e != api.OK {
		t.Errorf("with none: %v, %d", got, e)
	}
	if got, e := boxes.Meet(all(nil, box()), all(nil), 1); len(got) != 1 || e != api.OK {
		t.Errorf("boxes of no inputs: %v, %d", got, e)
	}
}

func TestJoin(t *testing.T) {
	a := all(box(span(1, 9), bools(7)), box(span(5, 4), bools(1)))
	b := all(box(span(1, 9), bools(3)), box(api.Set{Kind: api.Number, Spans: []api.Span{{Low: 3, High: 4}, {Low: 1, High: 2}}, Bools: 1}, bools(1)))
	want := all(box(span(1, 9), bools(3)), box(span(1, 4), bools(1)))
	for _, budget := range []int{api.Unlimited, 2, api.MaxBoxes + 1} {
		if got, e := boxes.Join(a, b, budget); !reflect.DeepEqual(got, want) || e != api.OK {
			t.Errorf("%d: %v, %d", budget, got, e)
		}
	}
	if got, e := boxes.Join(a, b, 1); got != nil || e != api.ErrFull {
		t.Errorf("too many: %v, %d", got, e)
	}
	if got, e := boxes.Join(nil, nil, 0); len(got) != 0 || e != api.OK {
		t.Errorf("none: %v, %d", got, e)
	}
	got, _ := boxes.Join(a, nil, 9)
	got[0][0].Spans[0].Low = 7
	if a[0][0].Spans[0].Low != 1 {
		t.Error("the result shares memory with the argument")
	}
}

func TestWrongLists(t *testing.T) {
	good := all(box(span(1, 2), bools(1)))
	for i, x := range []struct {
		a, b   [][]api.Set
		budget int
	}{
		{good, good, -2}, {good, good, math.MinInt}, {nil, nil, -2}, {good, all(box(span(1, 2))), 9}, {good, all(box(bools(1), span(1, 2))), 9}, {all(good[0], box(span(1, 2))), nil, 9}, {nil, all(good[0], box(span(1, 2), span(1, 2))), 9},
		{all(box(api.Set{})), nil, 9}, {nil, all(box(api.Set{Kind: 5})), 9}, {all(box(api.Set{Kind: 5})), all(box(api.Set{Kind: 5})), 0},
	} {
		if got, e := boxes.Meet(x.a, x.b, x.budget); got != nil || e != api.ErrArg {
			t.Errorf("Meet %d: %v, %d", i, got, e)
		}
		if got, e := boxes.Join(x.a, x.b, x.budget); got != nil || e != api.ErrArg {
			t.Errorf("Join %d: %v, %d", i, got, e)
		}
	}
}

func TestMostBoxes(t *testing.T) {
	var a [][]api.Set
	for n := range api.MaxBoxes + 1 {
		a = append(a, box(span(n, n)))
	}
	for _, budget := range []int{api.Unlimited, api.MaxBoxes, math.MaxInt} {
		if got, e := boxes.Join(a[1:], nil, budget); len(got) != api.MaxBoxes || e != api.OK {
			t.Errorf("%d: %d, %d", budget, len(got), e)
		}
		if got, e := boxes.Join(a, nil, budget); got != nil || e != api.ErrFull {
			t.Errorf("%d: %d, %d", budget, len(got), e)
		}
	}
}

func TestHasAndPick(t *testing.T) {
	list := all(box(span(1, 2), bools(1)), box(span(5, 6)), box(span(8, 9), bools(2)))
	for _, x := range []struct {
		values []api.Value
		want   bool
	}{
		{[]api.Value{num(1), bit(0)}, true}, {[]api.Value{num(1), bit(1)}, false}, {[]api.Value{num(9), bit(1)}, true}, {[]api.Value{num(5), bit(1)}, false}, {[]api.Value{num(1)}, false}, {nil, false}, {[]api.Value{num(1), bit(0), bit(0)}, false}, {[]api.Value{bit(0), num(1)}, false}, {[]api.Value{num(1), {}}, false},
	} {
		if boxes.Has(two(), list, x.values...) != x.want {
			t.Errorf("Has %v is not %v", x.values, x.want)
		}
	}
	if !boxes.Has(nil, all(nil)) || boxes.Has(nil, nil) || boxes.Has([]api.Type{{}}, all(box(api.Set{Null: true})), api.Value{}) {
		t.Error("Has of no inputs, of no boxes, of an unsound type")
	}
	if got, e := boxes.Pick(two(), box(span(-3, 9), bools(2))); !reflect.DeepEqual(got, []api.Value{num(0), bit(1)}) || e != api.OK {
		t.Errorf("Pick: %v, %d", got, e)
	}
	for i, x := range []struct {
		types []api.Type
		box   []api.Set
		e     api.Errno
	}{
		{two(), box(span(1, 2)), api.ErrArg}, {[]api.Type{{}}, nil, api.ErrForm}, {[]api.Type{number(), {}}, box(span(2, 1), bools(1)), api.ErrForm}, {two(), box(span(2, 1), span(1, 1)), api.ErrNone}, {two(), box(span(1, 1), span(1, 1)), api.ErrArg}, {two(), box(span(1, 1), bools(0)), api.ErrNone},
	} {
		if got, e := boxes.Pick(x.types, x.box); got != nil || e != x.e {
			t.Errorf("Pick %d: %v, %d", i, got, e)
		}
	}
}

func TestSomeBoxes(t *testing.T) {
	r := rand.New(rand.NewSource(6))
	some := func() [][]api.Set {
		var out [][]api.Set
		for range r.Intn(5) {
			low := r.Intn(9)
			out = append(out, box(api.Set{Kind: api.Number, Spans: []api.Span{{Low: low, High: low + r.Intn(5) - 1}}, Null: r.Intn(3) == 0}, api.Set{Kind: api.Bool, Bools: r.Intn(8), Null: r.Intn(4) == 0}))
		}
		return out
	}
	values := []api.Value{{}}
	for n := range 14 {
		values = append(values, num(n))
	}
	for range 1000 {
		a, b := some(), some()
		m, e1 := boxes.Meet(a, b, api.Unlimited)
		j, e2 := boxes.Join(a, b, api.Unlimited)
		if e1 != api.OK || e2 != api.OK {
			t.Fatalf("%d, %d", e1, e2)
		}
		for _, x := range values {
			for _, y := range []api.Value{{}, bit(0), bit(1)} {
				inA, inB := boxes.Has(two(), a, x, y), boxes.Has(two(), b, x, y)
				if boxes.Has(two(), m, x, y) != (inA && inB) || boxes.Has(two(), j, x, y) != (inA || inB) {
					t.Fatalf("%v, %v: %v, %v: %v, %v", x, y, a, b, m, j)
				}
			}
		}
		for _, x := range append(m, j...) {
			if v, e := boxes.Pick(two(), x); e != api.OK || !boxes.Has(two(), all(x), v...) || boxes.Empty(x) || !sets.Has(number(), x[0], v[0]) {
				t.Fatalf("Pick(%v): %v, %d", x, v, e)
			}
		}
	}
}
