package model

import (
	"strconv"

	"soffit/api"
	"soffit/expr"
	"soffit/tree"
	"soffit/unary"
	"soffit/value"
)

// Text returns a text that Load reads as m.
func Text(m api.Model) (string, api.Errno) {
	if !Sound(m) {
		return "", api.ErrForm
	}
	root := api.Node{Name: "model"}
	for _, in := range m.Inputs {
		root.Kids = append(root.Kids, api.Node{Name: "input", Attrs: typeAttrs(in.Name, in.Type)})
	}
	for _, d := range m.Decisions {
		n, e := decisionNode(d)
		if e != api.OK {
			return "", e
		}
		root.Kids = append(root.Kids, n)
	}
	if size(root) > api.MaxNodes {
		return "", api.ErrLarge
	}
	return tree.Text(root)
}

// size returns the number of elements of a tree.
func size(n api.Node) int {
	count := 1
	for _, kid := range n.Kids {
		count += size(kid)
	}
	return count
}

// typeAttrs returns the attributes of an input or a decision.
func typeAttrs(name string, t api.Type) []api.Attr {
	attrs := []api.Attr{{Name: "name", Value: name}, {Name: "type", Value: wordOf(t.Kind)}}
	if t.Scale != 0 {
		attrs = append(attrs, api.Attr{Name: "scale", Value: strconv.Itoa(t.Scale)})
	}
	if !t.Allowed.Any {
		attrs = append(attrs, api.Attr{Name: "allowed", Value: cellText(t.Allowed)})
	}
	return attrs
}

// cellText returns the text of a sound cell.
func cellText(t api.Tests) string {
	s, _ := unary.Text(t)
	return s
}

// valueText returns the text of a sound value.
func valueText(v api.Value) string {
	s, _ := value.Text(v)
	return s
}

// nameNodes returns elements that give names.
func nameNodes(element string, names ...string) []api.Node {
	var list []api.Node
	for _, name := range names {
		list = append(list, api.Node{Name: element, Attrs: []api.Attr{{Name: "name", Value: name}}})
	}
	return list
}

// decisionNode returns the element of a sound decision.
func decisionNode(d api.Decision) (api.Node, api.Errno) {
	n := api.Node{Name: "decision", Attrs: typeAttrs(d.Name, d.Type), Kids: nameNodes("need", d.Needs...)}
	if d.Table {
		n.Kids = append(n.Kids, tableNode(d))
		return n, api.OK
	}
	s, e := expr.Text(d.Expr)
	if e != api.OK {
		return api.Node{}, e
	}
	n.Kids = append(n.Kids, api.Node{Name: "expression", Text: s})
	return n, api.OK
}

// tableNode returns the element of a sound table.
func tableNode(d api.Decision) api.Node {
	n := api.Node{Name: "table", Attrs: []api.Attr{{Name: "policy", Value: string(rune(d.Policy))}}}
	if d.Default.Kind != api.Null {
		n.Attrs = append(n.Attrs, api.Attr{Name: "default", Value: valueText(d.Default)})
	}
	for _, v := range d.Order {
		n.Kids = append(n.Kids, api.Node{Name: "order", Text: valueText(v)})
	}
	n.Kids = append(n.Kids, nameNodes("column", d.Columns...)...)
	for _, r := range d.Rules {
		rule := api.Node{Name: "rule"}
		for _, cell := range r.Cells {
			rule.Kids = append(rule.Kids, api.Node{Name: "cell", Text: cellText(cell)})
		}
		rule.Kids = append(rule.Kids, api.Node{Name: "out", Text: valueText(r.Output)})
		n.Kids = append(n.Kids, rule)
	}
	return n
}
