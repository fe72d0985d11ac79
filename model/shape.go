package model

import (
	"slices"

	"soffit/api"
	"soffit/lex"
	"soffit/policy"
	"soffit/shape"
	"soffit/tree"
)

// shape notes the first element of a wrong shape. What an element has is asked
// before its child elements are, so those of known names stand where they
// should.
func (l *loader) shape(root api.Node) bool {
	counts, ok := countsOf(root, "input", "decision")
	ok = ok && within(counts[0], api.MaxInputs) && within(counts[1], api.MaxDecide)
	if !l.check(shapeStage, root, ok && root.Name == "model" && shape.Attrs(root) && shape.White(root)) {
		return false
	}
	for _, kid := range root.Kids {
		switch kid.Name {
		case "input":
			ok = l.check(shapeStage, kid, typedShape(kid) && bare(kid))
		case "decision":
			ok = l.decisionShape(kid)
		default:
			ok = l.check(shapeStage, kid, false)
		}
		if !ok {
			return false
		}
	}
	return true
}

// countsOf returns how many child elements have each of some names; false: they
// stand in another order. Those of other names don't count: it is they that are
// wrong, not the element in which they are.
func countsOf(n api.Node, names ...string) ([]int, bool) {
	other := func(kid api.Node) bool { return !slices.Contains(names, kid.Name) }
	n.Kids = slices.DeleteFunc(slices.Clone(n.Kids), other)
	return shape.Counts(n, names...)
}

// bare reports whether an element has neither child elements nor text.
func bare(n api.Node) bool { return len(n.Kids) == 0 && shape.White(n) }

// text reports whether an element has nothing but a text.
func text(n api.Node) bool { return len(n.Kids) == 0 && shape.Attrs(n) }

// named reports whether an element has a name that may be one.
func named(n api.Node) bool {
	name, _ := tree.Attr(n, "name")
	return lex.Word(name)
}

// typedShape reports whether an element has a name and a type.
func typedShape(n api.Node) bool {
	word, _ := tree.Attr(n, "type")
	scale, ok := tree.Attr(n, "scale")
	return shape.Attrs(n, "name", "type", "scale", "allowed") && named(n) && kindOf(word) != api.Null && (!ok || few(scale))
}

// few reports whether s is one or two digits.
func few(s string) bool {
	for _, r := range s {
		if r < '0' || r > '9' {
			return false
		}
	}
	return within(len(s), 2)
}

// decisionShape notes the first element of a wrong shape in a decision.
func (l *loader) decisionShape(n api.Node) bool {
	counts, ok := countsOf(n, "need", "table", "expression")
	ok = ok && counts[1]+counts[2] == 1
	if !l.check(shapeStage, n, ok && typedShape(n) && shape.White(n)) {
		return false
	}
	for _, kid := range n.Kids {
		switch kid.Name {
		case "need":
			ok = l.check(shapeStage, kid, shape.Attrs(kid, "name") && named(kid) && bare(kid))
		case "expression":
			ok = l.check(shapeStage, kid, text(kid))
		case "table":
			ok = l.tableShape(kid)
		default:
			ok = l.check(shapeStage, kid, false)
		}
		if !ok {
			return false
		}
	}
	return true
}

// tableShape notes the first element of a wrong shape in a table.
func (l *loader) tableShape(n api.Node) bool {
	counts, ok := countsOf(n, "order", "column", "rule")
	sign, _ := tree.Attr(n, "policy")
	ok = ok && within(counts[1], api.MaxColumns) && within(counts[2], api.MaxRules)
	ok = ok && shape.Attrs(n, "policy", "default") && len(sign) == 1 && policy.Known(int(sign[0]))
	if !l.check(shapeStage, n, ok && shape.White(n)) {
		return false
	}
	for _, kid := range n.Kids {
		switch kid.Name {
		case "order":
			ok = l.check(shapeStage, kid, text(kid))
		case "column":
			ok = l.check(shapeStage, kid, shape.Attrs(kid, "name") && named(kid) && bare(kid))
		case "rule":
			ok = l.ruleShape(kid, counts[1])
		default:
			ok = l.check(shapeStage, kid, false)
		}
		if !ok {
			return false
		}
	}
	return true
}

// ruleShape notes the first element of a wrong shape in a rule.
func (l *loader) ruleShape(n api.Node, columns int) bool {
	counts, ok := countsOf(n, "cell", "out")
	ok = ok && counts[0] == columns && counts[1] == 1
	if !l.check(shapeStage, n, ok && shape.Attrs(n) && shape.White(n)) {
		return false
	}
	for _, kid := range n.Kids {
		known := kid.Name == "cell" || kid.Name == "out"
		if !l.check(shapeStage, kid, known && text(kid)) {
			return false
		}
	}
	return true
}
