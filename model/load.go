package model

import (
	"slices"
	"strconv"

	"soffit/api"
	"soffit/expr"
	"soffit/sets"
	"soffit/shape"
	"soffit/tree"
	"soffit/unary"
)

// The stages in which a text is checked.
const (
	shapeStage = iota
	nameStage
	refStage
	cycleStage
	textStage
	typeStage
	stages
)

// fault is an element that is wrong.
type fault struct {
	found bool
	at    int
}

// loader makes a model of a tree; names are those of the model.
type loader struct {
	faults [stages]fault
	model  api.Model
	names  []string
}

// Load returns the model that s is, or the position of an element that is
// wrong.
func Load(s string) (api.Model, int, api.Errno) {
	root, at, e := tree.Parse(s)
	if e != api.OK {
		return api.Model{}, at, e
	}
	var l loader
	if l.shape(root) {
		l.read(root)
	}
	for stage, f := range l.faults {
		if f.found {
			return api.Model{}, f.at, errnoOf(stage)
		}
	}
	return l.model, 0, api.OK
}

// errnoOf returns the error of a stage.
func errnoOf(stage int) api.Errno {
	switch stage {
	case shapeStage:
		return api.ErrShape
	case nameStage:
		return api.ErrName
	case refStage:
		return api.ErrRef
	case cycleStage:
		return api.ErrCycle
	case textStage:
		return api.ErrText
	}
	return api.ErrType
}

// note notes that an element is wrong, unless one before it is.
func (l *loader) note(stage int, n api.Node) {
	if f := l.faults[stage]; !f.found || n.At < f.at {
		l.faults[stage] = fault{true, n.At}
	}
}

// check notes that an element is wrong if something is not so.
func (l *loader) check(stage int, n api.Node, ok bool) bool {
	if !ok {
		l.note(stage, n)
	}
	return ok
}

// read makes the model of a tree of the right shape. Decisions are read when
// all names are known.
func (l *loader) read(root api.Node) {
	inputs, decisions := tree.Find(root, "input"), tree.Find(root, "decision")
	for _, n := range inputs {
		l.model.Inputs = append(l.model.Inputs, api.Input{Name: l.name(n), Type: l.typed(n)})
	}
	for _, n := range decisions {
		l.model.Decisions = append(l.model.Decisions, api.Decision{Name: l.name(n), Type: l.typed(n)})
	}
	for i, n := range decisions {
		l.decision(n, &l.model.Decisions[i])
	}
	if l.faults[nameStage].found || l.faults[refStage].found {
		return
	}
	if _, i, e := ordered(l.model); e != api.OK {
		l.note(cycleStage, decisions[i])
	}
}

// name reads the name that an element gives.
func (l *loader) name(n api.Node) string {
	name, _ := tree.Attr(n, "name")
	l.check(nameStage, n, !slices.Contains(l.names, name))
	l.names = append(l.names, name)
	return name
}

// typed reads the type of an input or a decision.
func (l *loader) typed(n api.Node) api.Type {
	word, _ := tree.Attr(n, "type")
	t := api.Type{Kind: kindOf(word), Allowed: api.Tests{Any: true}}
	if s, ok := tree.Attr(n, "scale"); ok {
		t.Scale, _ = strconv.Atoi(s) // one or two digits
	}
	if s, ok := tree.Attr(n, "allowed"); ok {
		t.Allowed = l.cell(n, s)
	}
	l.check(typeStage, n, sets.Sound(t))
	return t
}

// cell reads a cell of an element.
func (l *loader) cell(n api.Node, s string) api.Tests {
	cell, _, e := unary.Parse(s)
	l.check(textStage, n, e == api.OK)
	return cell
}

// value reads a value of an element, which must be of a type.
func (l *loader) value(n api.Node, s string, t api.Type) api.Value {
	v, ok := shape.Value(s)
	if l.check(textStage, n, ok) {
		l.check(typeStage, n, sets.In(t, v))
	}
	return v
}

// refers reads a name that must be one of some names, and stand in a list only
// once.
func (l *loader) refers(n api.Node, names, list []string) string {
	name, _ := tree.Attr(n, "name")
	l.check(refStage, n, slices.Contains(names, name) && !slices.Contains(list, name))
	return name
}

// decision reads what a decision contains.
func (l *loader) decision(n api.Node, d *api.Decision) {
	for _, kid := range tree.Find(n, "need") {
		d.Needs = append(d.Needs, l.refers(kid, l.names, d.Needs))
	}
	for _, kid := range tree.Find(n, "table") {
		l.table(kid, d)
	}
	for _, kid := range tree.Find(n, "expression") {
		x, _, e := expr.Parse(kid.Text)
		if l.check(textStage, kid, e == api.OK) {
			l.check(typeStage, kid, allIn(expr.Names(x), d.Needs))
		}
		d.Expr = x
	}
}

// table reads the table of a decision.
func (l *loader) table(n api.Node, d *api.Decision) {
	d.Table = true
	sign, _ := tree.Attr(n, "policy")
	d.Policy = int(sign[0]) // one of the known characters
	l.check(typeStage, n, suits(d.Policy, d.Type))
	if s, ok := tree.Attr(n, "default"); ok {
		d.Default = l.value(n, s, d.Type)
	}
	for _, kid := range tree.Find(n, "order") {
		d.Order = append(d.Order, l.value(kid, kid.Text, d.Type))
	}
	for _, kid := range tree.Find(n, "column") {
		d.Columns = append(d.Columns, l.refers(kid, d.Needs, d.Columns))
	}
	for _, kid := range tree.Find(n, "rule") {
		d.Rules = append(d.Rules, l.rule(kid, d))
	}
}

// rule reads a rule of a table whose columns are known.
func (l *loader) rule(n api.Node, d *api.Decision) api.Rule {
	var r api.Rule
	for i, kid := range tree.Find(n, "cell") {
		cell := l.cell(kid, kid.Text)
		t, _ := TypeOf(l.model, d.Columns[i])
		l.check(typeStage, kid, asks(cell, t))
		r.Cells = append(r.Cells, cell)
	}
	for _, kid := range tree.Find(n, "out") {
		r.Output = l.value(kid, kid.Text, d.Type)
	}
	return r
}

// kindOf returns the kind that a word stands for, or Null.
func kindOf(word string) int {
	for kind := api.Number; kind <= api.Date; kind++ {
		if wordOf(kind) == word {
			return kind
		}
	}
	return api.Null
}

// wordOf returns the word for a kind.
func wordOf(kind int) string {
	switch kind {
	case api.Number:
		return "number"
	case api.Text:
		return "text"
	case api.Bool:
		return "bool"
	}
	return "date"
}
