package solve

import (
	"slices"

	"soffit/api"
	"soffit/boxes"
	"soffit/model"
)

// search goes through boxes that have a set for each input and each decision of
// a model: an axis for each. It narrows the sets of inputs until the sets of
// decisions hold for all that is left, from the last decision to the first.
type search struct {
	model  api.Model
	types  []api.Type
	tables []*table  // of the decisions that are tabular
	order  []int     // of the decisions
	whole  []api.Set // the box of all that there is
	left   int       // how many boxes may still be made
	full   bool      // more than that would be needed
	found  func(box []api.Set) bool
}

// newSearch returns a search that may make so many boxes. It gives those of the
// inputs that it finds to a function, as long as that returns true.
func newSearch(m api.Model, most int, found func(box []api.Set) bool) *search {
	x := &search{model: m, left: most, found: found, tables: make([]*table, len(m.Decisions))}
	for _, in := range m.Inputs {
		x.types = append(x.types, in.Type)
	}
	for _, d := range m.Decisions {
		x.types = append(x.types, d.Type)
	}
	x.whole, _ = boxes.Full(x.types) // the model is sound
	x.order, _ = model.Order(m)
	for _, i := range x.order {
		x.addTable(i)
	}
	return x
}

// addTable makes a decision's table, if it is tabular; those before it in the
// order are made.
func (x *search) addTable(i int) {
	d := x.model.Decisions[i]
	var axes []int
	for _, name := range d.Columns {
		axis := x.axis(name)
		if !x.tabular(axis) {
			return
		}
		axes = append(axes, axis)
	}
	if d.Table {
		x.tables[i] = newTable(d, axes, x.types)
		x.whole[len(x.model.Inputs)+i] = x.tables[i].possible()
	}
}

// axis returns the axis of a name of the model.
func (x *search) axis(name string) int {
	i := slices.IndexFunc(x.model.Inputs, func(in api.Input) bool { return in.Name == name })
	if i >= 0 {
		return i
	}
	i = slices.IndexFunc(x.model.Decisions, func(d api.Decision) bool { return d.Name == name })
	return len(x.model.Inputs) + i
}

// tabular reports whether the values at an axis can be traced to the inputs.
func (x *search) tabular(axis int) bool {
	inputs := len(x.model.Inputs)
	return axis < inputs || x.tables[axis-inputs] != nil
}

// inputTypes returns the types of the inputs.
func (x *search) inputTypes() []api.Type { return slices.Clone(x.types[:len(x.model.Inputs)]) }

// run searches a box.
func (x *search) run(box []api.Set) {
	if !boxes.Empty(box) && x.spend() {
		x.descend(box, len(x.order)-1)
	}
}

// spend counts a box; false: it is one too many.
func (x *search) spend() bool {
	if x.left == 0 {
		x.full = true
		return false
	}
	x.left--
	return true
}

// descend searches a box in which the decisions behind a place in the order
// hold; false: the search is to end.
func (x *search) descend(box []api.Set, place int) bool {
	for ; place >= 0; place-- {
		i := x.order[place]
		t := x.tables[i]
		if t == nil {
			continue // nothing that is searched for depends on it
		}
		n := node{table: t, box: box, place: place, wanted: t.wanted(box[len(x.model.Inputs)+i])}
		if slices.Contains(n.wanted, false) {
			return x.split(n)
		}
	}
	return x.found(box[:len(x.model.Inputs)])
}

// split searches a part of a box in which some rules fire and some don't.
func (x *search) split(n node) bool {
	n = n.settled()
	if n.hopeless() {
		return true
	}
	rule, found := n.choice()
	if !found {
		return x.descend(n.box, n.place-1)
	}
	inside, outside := n.table.cut(rule, n.box)
	return x.visit(n.with(rule, true, inside)) && x.visitAll(n, rule, outside)
}

// visitAll searches the boxes in which a rule doesn't fire.
func (x *search) visitAll(n node, rule int, outside [][]api.Set) bool {
	for _, box := range outside {
		if !x.visit(n.with(rule, false, box)) {
			return false
		}
	}
	return true
}

// visit searches a box that was made for it.
func (x *search) visit(n node) bool {
	if n.hopeless() {
		return true
	}
	return x.spend() && x.split(n)
}

// node is a box at a decision: of some rules it is decided whether they fire in
// it. Which results are wanted is told by the rules that fire.
type node struct {
	table          *table
	box            []api.Set
	place          int
	wanted         []bool
	decided, fired int
}

// with returns a node in which it is decided whether a rule fires.
func (n node) with(rule int, fires bool, box []api.Set) node {
	n.box = box
	n.decided |= 1 << rule
	if fires {
		n.fired |= 1 << rule
	}
	return n
}

// hopeless reports whether no result that is still possible is wanted.
func (n node) hopeless() bool {
	for bits, wanted := range n.wanted {
		if wanted && bits&n.decided == n.fired {
			return false
		}
	}
	return true
}

// matters reports whether it depends on a rule that isn't decided what is
// wanted.
func (n node) matters(rule int) bool {
	bit := 1 << rule
	if n.decided&bit != 0 {
		return false
	}
	for bits, wanted := range n.wanted {
		if bits&n.decided == n.fired && wanted != n.wanted[bits^bit] {
			return true
		}
	}
	return false
}

// forced reports whether a rule fires with all results that are wanted.
func (n node) forced(rule int) bool {
	for bits, wanted := range n.wanted {
		if wanted && bits&n.decided == n.fired && bits>>rule&1 == 0 {
			return false
		}
	}
	return true
}

// settled returns a node in which all rules that matter are decided that fire
// either everywhere in its box or nowhere.
func (n node) settled() node {
	for rule := range n.table.outputs {
		if !n.matters(rule) {
			continue
		}
		inside, outside := n.table.cut(rule, n.box)
		if inside == nil {
			n = n.with(rule, false, n.box)
		} else if len(outside) == 0 {
			n = n.with(rule, true, n.box)
		}
	}
	return n
}

// choice returns a rule that matters, if possible one that is forced: its
// decision divides the box least.
func (n node) choice() (int, bool) {
	first, found := 0, false
	for rule := range n.table.outputs {
		if !n.matters(rule) {
			continue
		}
		if n.forced(rule) {
			return rule, true
		}
		if !found {
			first, found = rule, true
		}
	}
	return first, found
}
