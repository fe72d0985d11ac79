package sets

import (
	"math"
	"slices"

	"soffit/api"
	"soffit/deci"
	"soffit/spans"
	"soffit/words"
)

// bothTruths are the bits of a set with false and true.
const bothTruths = 3

// known reports whether there are sets of a kind.
func known(kind int) bool { return kind >= api.Number && kind <= api.Date }

// bit returns the bit of a Bool.
func bit(v api.Value) int { return 1 << v.N }

// all returns the set of all values of a kind; of numbers, in units of a scale.
func all(kind int) api.Set {
	s := api.Set{Kind: kind, Null: true}
	switch kind {
	case api.Number:
		s.Spans = []api.Span{{Low: -api.MaxCoef, High: api.MaxCoef}}
	case api.Date:
		s.Spans = []api.Span{{Low: api.MinDay, High: api.MaxDay}}
	case api.Text:
		s.Words = words.Make(true)
	case api.Bool:
		s.Bools = bothTruths
	}
	return s
}

// full returns the set of all values of a sound type: null is one, allowed or
// not.
func full(t api.Type) api.Set {
	s := holding(t, t.Allowed)
	s.Null = true
	return s
}

// holding returns the set of the values of a type's kind for which tests hold.
func holding(t api.Type, tests api.Tests) api.Set {
	switch {
	case tests.Any:
		return all(t.Kind)
	case tests.Not:
		return without(all(t.Kind), some(t, tests.List))
	}
	return meet(all(t.Kind), some(t, tests.List))
}

// meet returns what is in both of two sets of one kind.
func meet(a, b api.Set) api.Set {
	s := api.Set{Kind: a.Kind, Null: a.Null && b.Null}
	switch a.Kind {
	case api.Number, api.Date:
		s.Spans = spans.Meet(a.Spans, b.Spans)
	case api.Text:
		s.Words = words.Meet(a.Words, b.Words)
	case api.Bool:
		s.Bools = a.Bools & b.Bools & bothTruths
	}
	return s
}

// without returns what is in a and not in b, which is of the same kind.
func without(a, b api.Set) api.Set {
	s := api.Set{Kind: a.Kind, Null: a.Null && !b.Null}
	switch a.Kind {
	case api.Number, api.Date:
		s.Spans = spans.Without(a.Spans, b.Spans)
	case api.Text:
		s.Words = words.Meet(a.Words, words.Other(b.Words))
	case api.Bool:
		s.Bools = a.Bools &^ b.Bools & bothTruths
	}
	return s
}

// some returns the set of what one of some tests holds for; its spans may reach
// beyond the values of the type.
func some(t api.Type, list []api.Test) api.Set {
	s := api.Set{Kind: t.Kind}
	var ranges []api.Span
	var texts []string
	for _, test := range list {
		switch {
		case test.Low.Kind == api.Null:
			s.Null = true
		case test.Low.Kind != t.Kind:
		case t.Kind == api.Text:
			texts = append(texts, test.Low.Text)
		case t.Kind == api.Bool:
			s.Bools |= bit(test.Low)
		default:
			ranges = slices.Concat(ranges, []api.Span{span(t, test)})
		}
	}
	s.Spans = spans.Join(ranges...)
	if t.Kind == api.Text {
		s.Words = words.Make(false, texts...)
	}
	return s
}

// span returns the units for which a test holds, whose bounds are of the type's
// kind, which is Number or Date.
func span(t api.Type, test api.Test) api.Span {
	n, exact := unit(t, test.Low)
	switch test.Kind {
	case api.IsLess:
		return api.Span{Low: math.MinInt, High: last(n, exact, true)}
	case api.IsAtMost:
		return api.Span{Low: math.MinInt, High: n}
	case api.IsMore:
		return api.Span{Low: n + 1, High: math.MaxInt}
	case api.IsAtLeast:
		return api.Span{Low: first(n, exact, false), High: math.MaxInt}
	case api.IsBetween:
		high, whole := unit(t, test.High)
		return api.Span{Low: first(n, exact, test.OpenLow), High: last(high, whole, test.OpenHigh)}
	}
	return api.Span{Low: first(n, exact, false), High: n}
}

// first returns the first unit from a bound on, which is n or (if not exact)
// between n and the next one.
func first(n int, exact, open bool) int {
	if exact && !open {
		return n
	}
	return n + 1
}

// last returns the last unit up to a bound, which is n or (if not exact)
// between n and the next one.
func last(n int, exact, open bool) int {
	if exact && open {
		return n - 1
	}
	return n
}

// unit returns the greatest unit of a type that is not above a number or a
// date, and whether it is that.
func unit(t api.Type, v api.Value) (int, bool) {
	if v.Kind != api.Number {
		return v.N, true
	}
	n, exact, _ := deci.At(v.Dec, t.Scale) // the number and the scale are sound
	return n, exact
}
