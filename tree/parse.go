package tree

import (
	"strings"

	"soffit/api"
	"soffit/mark"
)

// Parse returns the tree that s is, or the first position that is wrong.
func Parse(s string) (api.Node, int, api.Errno) {
	marks, at, e := mark.Marks(s)
	if e != api.OK {
		return api.Node{}, at, e
	}
	var g grower
	for _, m := range marks {
		if !g.take(m) {
			return api.Node{}, g.wrong, g.e
		}
	}
	if len(g.open) > 0 || len(g.roots) == 0 {
		return api.Node{}, len(s), api.ErrTag
	}
	return g.roots[0], 0, api.OK
}

// grower makes a tree of marks: open are the elements that have begun and not
// ended, the outermost one first; roots are those that stand in none.
type grower struct {
	open, roots []api.Node
	count       int
	wrong       int
	e           api.Errno
}

// fail notes an error.
func (g *grower) fail(at int, e api.Errno) bool {
	g.wrong, g.e = at, e
	return false
}

// take adds a mark; false: it is wrong.
func (g *grower) take(m api.Mark) bool {
	switch m.Kind {
	case api.Chars:
		return g.write(m)
	case api.Close:
		return g.finish(m)
	}
	return g.begin(m)
}

// write adds text.
func (g *grower) write(m api.Mark) bool {
	if last := len(g.open) - 1; last >= 0 {
		g.open[last].Text += m.Text
		return true
	}
	return white(m.Text) || g.fail(m.At, api.ErrTag)
}

// begin adds an element.
func (g *grower) begin(m api.Mark) bool {
	g.count++
	switch {
	case len(g.open) == 0 && len(g.roots) > 0:
		return g.fail(m.At, api.ErrTag)
	case len(g.open) >= api.MaxDepth:
		return g.fail(m.At, api.ErrDeep)
	case g.count > api.MaxNodes:
		return g.fail(m.At, api.ErrLarge)
	}
	n := api.Node{Name: m.Name, At: m.At, Attrs: m.Attrs}
	if m.Kind == api.Empty {
		g.place(n)
	} else {
		g.open = append(g.open, n)
	}
	return true
}

// finish ends the innermost element.
func (g *grower) finish(m api.Mark) bool {
	last := len(g.open) - 1
	if last < 0 || g.open[last].Name != m.Name {
		return g.fail(m.At, api.ErrTag)
	}
	n := g.open[last]
	g.open = g.open[:last]
	if len(n.Kids) > 0 {
		if !white(n.Text) {
			return g.fail(n.At, api.ErrTag)
		}
		n.Text = ""
	}
	g.place(n)
	return true
}

// place puts an element that has ended where it belongs.
func (g *grower) place(n api.Node) {
	if last := len(g.open) - 1; last >= 0 {
		g.open[last].Kids = append(g.open[last].Kids, n)
		return
	}
	g.roots = append(g.roots, n)
}

// white reports whether s is white space alone.
func white(s string) bool { return strings.Trim(s, "\t\n\r ") == "" }
