package model

import (
	"slices"

	"soffit/api"
	"soffit/expr"
	"soffit/lex"
	"soffit/policy"
	"soffit/sets"
	"soffit/unary"
)

// Sound reports whether m is a model that has a text.
func Sound(m api.Model) bool {
	if !within(len(m.Inputs), api.MaxInputs) || !within(len(m.Decisions), api.MaxDecide) {
		return false
	}
	var names []string
	var types []api.Type
	for _, in := range m.Inputs {
		names, types = append(names, in.Name), append(types, in.Type)
	}
	for _, d := range m.Decisions {
		names, types = append(names, d.Name), append(types, d.Type)
	}
	if !distinct(names) || slices.ContainsFunc(types, func(t api.Type) bool { return !sets.Sound(t) }) {
		return false
	}
	for _, name := range names {
		if !lex.Word(name) {
			return false
		}
	}
	for _, d := range m.Decisions {
		if !allIn(d.Needs, names) || !distinct(d.Needs) || !soundDecision(m, d) {
			return false
		}
	}
	_, _, e := ordered(m)
	return e == api.OK
}

// within reports whether there is something, and at most so much.
func within(n, most int) bool { return n >= 1 && n <= most }

// distinct reports whether each name stands in a list once.
func distinct(list []string) bool {
	for i, name := range list {
		if slices.Contains(list[:i], name) {
			return false
		}
	}
	return true
}

// allIn reports whether all names of a list are in another one.
func allIn(list, names []string) bool {
	return !slices.ContainsFunc(list, func(name string) bool { return !slices.Contains(names, name) })
}

// soundDecision reports whether a decision whose names exist is sound.
func soundDecision(m api.Model, d api.Decision) bool {
	if d.Table {
		return soundTable(m, d)
	}
	none := d.Policy == 0 && len(d.Columns) == 0 && len(d.Rules) == 0 && len(d.Order) == 0 && d.Default == api.Value{}
	return none && expr.Sound(d.Expr) && allIn(expr.Names(d.Expr), d.Needs)
}

// soundTable reports whether a decision whose names exist is a sound table.
func soundTable(m api.Model, d api.Decision) bool {
	if !expr.Same(d.Expr, api.Expr{}) || !policy.Known(d.Policy) || !suits(d.Policy, d.Type) {
		return false
	}
	if !within(len(d.Columns), api.MaxColumns) || !within(len(d.Rules), api.MaxRules) {
		return false
	}
	if !distinct(d.Columns) || !allIn(d.Columns, d.Needs) {
		return false
	}
	var types []api.Type
	for _, name := range d.Columns {
		t, _ := TypeOf(m, name)
		types = append(types, t)
	}
	foreign := func(v api.Value) bool { return !sets.In(d.Type, v) }
	if foreign(d.Default) || slices.ContainsFunc(d.Order, foreign) {
		return false
	}
	return !slices.ContainsFunc(d.Rules, func(r api.Rule) bool { return foreign(r.Output) || !soundCells(r, types) })
}

// soundCells reports whether a rule has a sound cell for each column.
func soundCells(r api.Rule, types []api.Type) bool {
	if len(r.Cells) != len(types) {
		return false
	}
	for i, cell := range r.Cells {
		if !unary.Sound(cell) || !asks(cell, types[i]) {
			return false
		}
	}
	return true
}

// suits reports whether a table with a type may have a policy.
func suits(policy int, t api.Type) bool {
	return policy != api.Sum && policy != api.Count || t.Kind == api.Number
}

// asks reports whether a sound cell names only null and values of a type's
// kind.
func asks(cell api.Tests, t api.Type) bool {
	foreign := func(v api.Value) bool { return v.Kind != api.Null && v.Kind != t.Kind }
	return !slices.ContainsFunc(unary.Ends(cell), foreign)
}
