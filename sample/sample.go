// Package sample makes small models for tests. All their inputs have few values.
package sample

import (
	"slices"
	"strconv"

	"soffit/api"
	"soffit/deci"
	"soffit/sets"
	"soffit/value"
)

// maker makes choices that depend on nothing but its state.
type maker struct {
	state uint64
}

// below returns a number from 0 to n-1.
func (k *maker) below(n int) int {
	k.state = k.state*6364136223846793005 + 1442695040888963407
	return int(k.state>>33) % n
}

// Size is how large a model may be.
type Size struct {
	Inputs, Decisions, Columns, Rules, Items int
	Expressions                              bool
}

// Model returns the model of a number, of at most a size.
func Model(number int, size Size) api.Model {
	k := &maker{uint64(number)*2654435761 + 99}
	k.below(2)
	var m api.Model
	var names []string
	var types []api.Type
	for i := range 1 + k.below(size.Inputs) {
		in := api.Input{Name: "i" + strconv.Itoa(i), Type: k.inputType()}
		m.Inputs = append(m.Inputs, in)
		names, types = append(names, in.Name), append(types, in.Type)
	}
	for i := range 1 + k.below(size.Decisions) {
		d := api.Decision{Name: "d" + strconv.Itoa(i), Type: k.outputType()}
		k.fill(&d, names, types, size)
		m.Decisions = append(m.Decisions, d)
		names, types = append(names, d.Name), append(types, d.Type)
	}
	if k.below(3) == 0 {
		slices.Reverse(m.Decisions) // what is needed may stand behind
	}
	return m
}

// Values returns some values of a type: all those of an input's type.
func Values(t api.Type) []api.Value {
	list := []api.Value{{}, {Kind: api.Bool}, {Kind: api.Bool, N: 1}}
	for n := -2; n < 14; n++ {
		d, _ := deci.Make(n*5, 1)
		list = append(list, api.Value{Kind: api.Number, Dec: d}, api.Value{Kind: api.Date, N: max(n, 0)})
	}
	for _, s := range [...]string{"", "a", "b", "c"} {
		list = append(list, api.Value{Kind: api.Text, Text: s})
	}
	list, _ = value.Sort(list...)
	return slices.DeleteFunc(list, func(v api.Value) bool { return !sets.In(t, v) })
}

// Inputs returns all inputs of a model.
func Inputs(m api.Model) [][]api.Value {
	all := [][]api.Value{nil}
	for _, in := range m.Inputs {
		var next [][]api.Value
		for _, row := range all {
			for _, v := range Values(in.Type) {
				next = append(next, append(row[:len(row):len(row)], v))
			}
		}
		all = next
	}
	return all
}

// inputType returns a type with few values.
func (k *maker) inputType() api.Type {
	t := api.Type{Kind: 1 + k.below(4), Allowed: api.Tests{Any: true}}
	switch t.Kind {
	case api.Number:
		t.Scale = k.below(2)
		t.Allowed = between(api.Value{Kind: api.Number}, api.Value{Kind: api.Number, Dec: api.Dec{N: 2 + k.below(2)}})
		if t.Scale == 1 { // of the tenths only some are tried
			t.Allowed = list(Values(api.Type{Kind: api.Number, Scale: 1, Allowed: t.Allowed})[1:]...)
		}
	case api.Date:
		t.Allowed = between(api.Value{Kind: api.Date, N: 1}, api.Value{Kind: api.Date, N: 3 + k.below(2)})
	case api.Text:
		t.Allowed = list(Values(api.Type{Kind: api.Text, Allowed: t.Allowed})[1+k.below(2):]...)
	}
	return t
}

// outputType returns a type of a decision.
func (k *maker) outputType() api.Type {
	t := api.Type{Kind: 1 + k.below(4), Allowed: api.Tests{Any: true}}
	if t.Kind == api.Number {
		t.Scale = k.below(2)
		if k.below(4) == 0 {
			t.Allowed = api.Tests{List: []api.Test{{Kind: api.IsLess, Low: api.Value{Kind: api.Number, Dec: api.Dec{N: 4}}}}}
		}
	}
	return t
}

// between returns the tests of an interval.
func between(low, high api.Value) api.Tests {
	return api.Tests{List: []api.Test{{Kind: api.IsBetween, Low: low, High: high}}}
}

// list returns the tests that ask for values.
func list(values ...api.Value) api.Tests {
	var t api.Tests
	for _, v := range values {
		t.List = append(t.List, api.Test{Kind: api.IsValue, Low: v})
	}
	return t
}

// fill makes what a decision contains.
func (k *maker) fill(d *api.Decision, names []string, types []api.Type, size Size) {
	for i := range names {
		if len(d.Needs) < size.Columns && (k.below(2) == 0 || i == len(names)-1) {
			d.Needs = append(d.Needs, names[i])
		}
	}
	if size.Expressions && k.below(4) == 0 {
		d.Expr = api.Expr{Op: api.OpName, Name: d.Needs[k.below(len(d.Needs))]}
		return
	}
	d.Table = true
	d.Columns = slices.Clone(d.Needs)
	policies := []int{api.Unique, api.AnyOf, api.Priority, api.First, api.Least, api.Most, api.Sum, api.Count}
	d.Policy = policies[k.below(6)]
	if d.Type.Kind == api.Number {
		d.Policy = policies[k.below(8)]
	}
	outputs := Values(d.Type)
	outputs = outputs[:min(len(outputs), 7)]
	pick := func() api.Value { return outputs[k.below(len(outputs))] }
	d.Default = pick()
	for range k.below(3) {
		d.Order = append(d.Order, pick())
	}
	for range 1 + k.below(size.Rules) {
		r := api.Rule{Output: pick()}
		for _, name := range d.Columns {
			r.Cells = append(r.Cells, k.cell(types[slices.Index(names, name)], size.Items))
		}
		d.Rules = append(d.Rules, r)
	}
}

// cell returns a cell for values of a type.
func (k *maker) cell(t api.Type, items int) api.Tests {
	if k.below(4) == 0 {
		return api.Tests{Any: true}
	}
	values := Values(api.Type{Kind: t.Kind, Scale: t.Scale, Allowed: api.Tests{Any: true}})
	cell := api.Tests{Not: k.below(4) == 0}
	for range 1 + k.below(items) {
		one := api.Test{Kind: api.IsValue, Low: values[k.below(len(values))]}
		if (t.Kind == api.Number || t.Kind == api.Date) && one.Low.Kind == t.Kind {
			one.Kind = 1 + k.below(6)
		}
		if one.Kind == api.IsBetween {
			one.High = values[len(values)-1-k.below(4)]
			one.OpenLow, one.OpenHigh = k.below(2) == 0, k.below(2) == 0
		}
		cell.List = append(cell.List, one)
	}
	return cell
}
