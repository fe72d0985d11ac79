package solve

import (
	"slices"

	"soffit/api"
	"soffit/policy"
	"soffit/sets"
)

// table is a decision's table, ready for a search. Which rules fire is told by
// bits: rule n fires if bit n is set.
type table struct {
	decision api.Decision
	outputs  []api.Value
	axes     []int       // of its columns
	holds    [][]api.Set // by rule and column: the values for which the cell holds
	fails    [][]api.Set // and the others
	values   []api.Value // the results that it may have
	which    []int       // by the rules that fire: the index of the result
}

// newTable returns the table of a decision whose columns are at some axes, with
// their types.
func newTable(d api.Decision, axes []int, types []api.Type) *table {
	t := &table{decision: d, axes: axes, which: make([]int, 1<<len(d.Rules))}
	for _, r := range d.Rules {
		t.outputs = append(t.outputs, r.Output)
		var holds, fails []api.Set
		for i, cell := range r.Cells {
			in, out := parts(types[axes[i]], cell)
			holds, fails = append(holds, in), append(fails, out)
		}
		t.holds, t.fails = append(t.holds, holds), append(t.fails, fails)
	}
	t.results(0, 0, nil)
	return t
}

// results finds the result for each choice of the rules that fire: of those
// before a rule the choice is made.
func (t *table) results(rule, bits int, fired []int) {
	if rule == len(t.outputs) {
		t.which[bits] = t.index(fired)
		return
	}
	t.results(rule+1, bits, fired)
	t.results(rule+1, bits|1<<rule, append(fired[:len(fired):len(fired)], rule))
}

// index returns the index of the result if some rules fire.
func (t *table) index(fired []int) int {
	d := t.decision
	v, _ := policy.Outcome(d.Policy, t.outputs, d.Order, d.Default, fired...) // all of it is sound
	if !sets.In(d.Type, v) {
		v = api.Value{}
	}
	i := slices.Index(t.values, v)
	if i < 0 {
		i = len(t.values)
		t.values = append(t.values, v)
	}
	return i
}

// possible returns the set of all results.
func (t *table) possible() api.Set {
	all := api.Set{Kind: t.decision.Type.Kind}
	for _, v := range t.values {
		one, _ := sets.One(t.decision.Type, v) // a result is of the type
		all.Spans = append(all.Spans, one.Spans...)
		all.Words.List = append(all.Words.List, one.Words.List...)
		all.Bools |= one.Bools
		all.Null = all.Null || one.Null
	}
	all, _ = sets.Meet(all, all) // brings it in order
	return all
}

// wanted returns, by the rules that fire, whether the result is in a set.
func (t *table) wanted(s api.Set) []bool {
	var in []bool
	for _, v := range t.values {
		in = append(in, sets.Has(t.decision.Type, s, v))
	}
	list := make([]bool, len(t.which))
	for bits, i := range t.which {
		list[bits] = in[i]
	}
	return list
}

// cut divides a box into the part in which a rule fires, and boxes in which it
// doesn't; none of them is empty, and no two overlap.
func (t *table) cut(rule int, box []api.Set) (inside []api.Set, outside [][]api.Set) {
	inside = box
	for i, axis := range t.axes {
		if out := narrowed(inside, axis, t.fails[rule][i]); !sets.Empty(out[axis]) {
			outside = append(outside, out)
		}
		inside = narrowed(inside, axis, t.holds[rule][i])
		if sets.Empty(inside[axis]) {
			return nil, [][]api.Set{box}
		}
	}
	return inside, outside
}
