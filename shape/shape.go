// Package shape asks what elements of XML texts have: attributes, child
// elements, texts that are values.
package shape

import (
	"slices"
	"strings"

	"soffit/api"
	"soffit/unary"
)

// Attrs reports whether an element has no attributes but those with some names.
func Attrs(n api.Node, names ...string) bool {
	return !slices.ContainsFunc(n.Attrs, func(a api.Attr) bool { return !slices.Contains(names, a.Name) })
}

// White reports whether an element's text is white space alone.
func White(n api.Node) bool { return strings.Trim(n.Text, "\t\n\r ") == "" }

// Counts returns how many child elements have the first name, how many behind
// them the second, and so on; false: there are others, or in another order.
func Counts(n api.Node, names ...string) ([]int, bool) {
	counts := make([]int, len(names))
	next := 0
	for i, name := range names {
		for next < len(n.Kids) && n.Kids[next].Name == name {
			next++
			counts[i]++
		}
	}
	return counts, next == len(n.Kids)
}

// Value returns the value that a text is: it is a cell with one test, which
// asks for that value.
func Value(s string) (api.Value, bool) {
	t, _, e := unary.Parse(s)
	if e != api.OK || t.Not || len(t.List) != 1 || t.List[0].Kind != api.IsValue {
		return api.Value{}, false
	}
	return t.List[0].Low, true
}
