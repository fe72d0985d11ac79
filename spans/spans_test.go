package spans_test

import (
	"math"
	"math/rand"
	"slices"
	"testing"

	"soffit/api"
	"soffit/spans"
)

const (
	least = math.MinInt
	most  = math.MaxInt
)

func list(ends ...int) []api.Span {
	var out []api.Span
	for i := 0; i < len(ends); i += 2 {
		out = append(out, api.Span{Low: ends[i], High: ends[i+1]})
	}
	return out
}

func TestJoin(t *testing.T) {
	for _, c := range []struct{ in, want []api.Span }{
		{nil, nil}, {list(5, 4), nil}, {list(most, least), nil}, {list(1, 2, 3, 4), list(1, 4)}, {list(1, 2, 4, 5), list(1, 2, 4, 5)}, {list(5, 6, 1, 2), list(1, 2, 5, 6)}, {list(1, 9, 3, 4), list(1, 9)}, {list(1, 1, 1, 1), list(1, 1)},
		{list(3, 3, 9, 2, 1, 1, 2, 2), list(1, 3)}, {list(least, most, 1, 2), list(least, most)}, {list(5, most, most, most), list(5, most)}, {list(least, least, least+1, 0), list(least, 0)}, {list(1, 5, 2, 3, 6, 7), list(1, 7)}, {list(most, most, least, least), list(least, least, most, most)},
	} {
		if got := spans.Join(c.in...); !slices.Equal(got, c.want) {
			t.Errorf("Join(%v): %v", c.in, got)
		}
	}
	in := list(5, 6, 1, 2)
	spans.Join(in...)
	if !slices.Equal(in, list(5, 6, 1, 2)) {
		t.Error("the argument was changed")
	}
}

func TestMeetAndWithout(t *testing.T) {
	for _, c := range []struct{ a, b, meet, without []api.Span }{
		{nil, list(1, 2), nil, nil}, {list(1, 2), nil, nil, list(1, 2)}, {list(1, 9), list(3, 4), list(3, 4), list(1, 2, 5, 9)}, {list(1, 9), list(1, 9), list(1, 9), nil}, {list(1, 5), list(5, 9), list(5, 5), list(1, 4)}, {list(5, 9), list(1, 5), list(5, 5), list(6, 9)},
		{list(1, 3, 5, 7), list(2, 6), list(2, 3, 5, 6), list(1, 1, 7, 7)}, {list(1, 20), list(3, 4, 8, 9, 15, 30), list(3, 4, 8, 9, 15, 20), list(1, 2, 5, 7, 10, 14)}, {list(8, 9, 1, 2, 3, 4), list(4, 8), list(4, 4, 8, 8), list(1, 3, 9, 9)},
		{list(least, most), list(0, 0), list(0, 0), list(least, -1, 1, most)}, {list(least, most), list(least, most), list(least, most), nil}, {list(least, most), list(least, least, most, most), list(least, least, most, most), list(least+1, most-1)}, {list(1, 2), list(2, 1), nil, list(1, 2)}, {list(0, most), list(most, most), list(most, most), list(0, most-1)}, {list(1, 2, 4, 5), list(1, 5), list(1, 2, 4, 5), nil},
	} {
		if got := spans.Meet(c.a, c.b); !slices.Equal(got, c.meet) {
			t.Errorf("Meet(%v, %v): %v", c.a, c.b, got)
		}
		if got := spans.Meet(c.b, c.a); !slices.Equal(got, c.meet) {
			t.Errorf("Meet(%v, %v): %v", c.b, c.a, got)
		}
		if got := spans.Without(c.a, c.b); !slices.Equal(got, c.without) {
			t.Errorf("Without(%v, %v): %v", c.a, c.b, got)
		}
	}
}

// inOrder reports whether spans have the form of results.
func inOrder(list []api.Span) bool {
	for i, s := range list {
		if s.Low > s.High || i > 0 && s.Low-1 <= list[i-1].High {
			return false
		}
	}
	return true
}

func TestSomeSpans(t *testing.T) {
	r := rand.New(rand.NewSource(3))
	some := func() []api.Span {
		var out []api.Span
		for range r.Intn(6) {
			low := r.Intn(30)
			out = append(out, api.Span{Low: low, High: low + r.Intn(8) - 2})
		}
		return out
	}
	for range 5000 {
		a, b := some(), some()
		join, meet, without := spans.Join(append(slices.Clone(a), b...)...), spans.Meet(a, b), spans.Without(a, b)
		if !inOrder(join) || !inOrder(meet) || !inOrder(without) {
			t.Fatalf("%v, %v: %v, %v, %v", a, b, join, meet, without)
		}
		for n := -2; n < 42; n++ {
			x, y := spans.Has(a, n), spans.Has(b, n)
			if spans.Has(join, n) != (x || y) || spans.Has(meet, n) != (x && y) || spans.Has(without, n) != (x && !y) {
				t.Fatalf("%d: %v, %v: %v, %v, %v", n, a, b, join, meet, without)
			}
		}
		n := r.Intn(40) - 5
		got, e := spans.Near(a, n)
		want, found := 0, false
		for d := 0; d < 60 && !found; d++ {
			if spans.Has(a, n-d) {
				want, found = n-d, true
			} else if spans.Has(a, n+d) {
				want, found = n+d, true
			}
		}
		if got != want || (e == api.OK) != found {
			t.Fatalf("Near(%v, %d): %d, %d", a, n, got, e)
		}
	}
}

func TestHasAndNear(t *testing.T) {
	if spans.Has(nil, 0) || spans.Has(list(1, 0), 0) || spans.Has(list(1, 0), 1) || !spans.Has(list(9, 9, 1, 2), 2) || !spans.Has(list(least, most), least) {
		t.Error("Has")
	}
	for _, c := range []struct {
		list []api.Span
		n    int
		want int
		e    api.Errno
	}{
		{nil, 5, 0, api.ErrNone}, {list(6, 5, most, least), 5, 0, api.ErrNone}, {list(7, 9, 1, 3), 5, 3, 0}, {list(7, 9, 1, 2), 5, 7, 0}, {list(1, 9), 5, 5, 0}, {list(3, 3, 7, 7), 5, 3, 0}, {list(7, 7, 3, 3), 5, 3, 0},
		{list(most, most), least, most, 0}, {list(least, least), most, least, 0}, {list(most, most, least, least), -1, least, 0}, {list(least, least, most, most), 0, most, 0}, {list(least, least, most, most), -2, least, 0}, {list(9, 8, 20, 30), 0, 20, 0}, {list(-9, -5, 9, 8), 0, -5, 0},
	} {
		if got, e := spans.Near(c.list, c.n); got != c.want || e != c.e {
			t.Errorf("Near(%v, %d): %d, %d", c.list, c.n, got, e)
		}
	}
}
