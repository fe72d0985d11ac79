package tree_test

import (
	"reflect"
	"strings"
	"testing"

	"soffit/api"
	"soffit/tree"
)

func TestParse(t *testing.T) {
	s := " <!-- x --><a b=\"1\" c=\"&lt;\">\n <d>t&amp;<![CDATA[<u>]]><!-- - -->v</d>\t<e/><d x=\"\"></d> </a>\n<!-- y -->"
	want := api.Node{Name: "a", At: 11, Attrs: []api.Attr{{Name: "b", Value: "1"}, {Name: "c", Value: "<"}}, Kids: []api.Node{
		{Name: "d", At: strings.Index(s, "<d>"), Text: "t&<u>v"}, {Name: "e", At: strings.Index(s, "<e/>")}, {Name: "d", At: strings.Index(s, "<d x"), Attrs: []api.Attr{{Name: "x"}}},
	}}
	if got, at, e := tree.Parse(s); !reflect.DeepEqual(got, want) || at != 0 || e != api.OK {
		t.Errorf("%v, %d, %d", got, at, e)
	}
	for s, want := range map[string]string{
		"<a> </a>": " ", "<a/>": "", "<a></a>": "", "<a> <b/> </a>": "", "<a><b/><![CDATA[ ]]>&#10;</a>": "", "<![CDATA[ ]]>&#32;<a>x</a><![CDATA[]]>": "x",
	} {
		if got, at, e := tree.Parse(s); got.Text != want || at != 0 || e != api.OK {
			t.Errorf("%q: %v, %d, %d", s, got, at, e)
		}
	}
}

// nested returns n elements, each in the one before.
func nested(n int) string { return strings.Repeat("<a>", n) + strings.Repeat("</a>", n) }

func TestWrongTexts(t *testing.T) {
	many := "<r>" + strings.Repeat("<a/>", api.MaxNodes)
	for _, c := range []struct {
		s  string
		at int
		e  api.Errno
	}{
		{"", 0, api.ErrTag}, {" <!-- a --> ", 12, api.ErrTag}, {" x <a/>", 0, api.ErrTag}, {" <!-- --> y<a/>", 10 - 1, api.ErrTag}, {"<![CDATA[x]]><a/>", 0, api.ErrTag},
		{" </a>", 1, api.ErrTag}, {"<a></b>", 3, api.ErrTag}, {"<a><b></a></b>", 6, api.ErrTag}, {"<a>", 3, api.ErrTag}, {"<a><b/> ", 8, api.ErrTag}, {"<a>x<b>", 7, api.ErrTag},
		{"<a/><b/>", 4, api.ErrTag}, {"<a/> <b>", 5, api.ErrTag}, {"<a/> x", 4, api.ErrTag}, {"<a/></a>", 4, api.ErrTag}, {"<a/> <!-- --> x", 13, api.ErrTag},
		{"<r> <a>x<b/></a></r>", 4, api.ErrTag}, {"<a>x<b></c></a>", 7, api.ErrTag}, {"<a><b/>x</c>", 8, api.ErrTag}, {"<a><b/>&#120;</a>y", 0, api.ErrTag},
		{"</b>&;", 4, api.ErrName}, {"<a></b><", 7, api.ErrTag}, {"x<a b>", 1, api.ErrTag}, {strings.Repeat(" ", api.MaxText+1), 0, api.ErrLarge}, {"<a>\x01", 3, api.ErrChar},
		{nested(65), 64 * 3, api.ErrDeep}, {strings.Repeat("<a>", 64) + "<b/>", 64 * 3, api.ErrDeep}, {many + "</r>", len(many) - 4, api.ErrLarge}, {many, len(many) - 4, api.ErrLarge},
		{many[:len(many)-4] + "</r><a/>", len(many), api.ErrTag},
	} {
		if got, at, e := tree.Parse(c.s); !reflect.DeepEqual(got, api.Node{}) || at != c.at || e != c.e {
			t.Errorf("%.30q: %v, %d, %d, want %d, %d", c.s, got.Name, at, e, c.at, c.e)
		}
	}
	if _, _, e := tree.Parse(nested(64)); e != api.OK {
		t.Errorf("the deepest tree: %d", e)
	}
	if n, _, e := tree.Parse(many[:len(many)-4] + "</r>"); e != api.OK || len(n.Kids) != api.MaxNodes-1 {
		t.Errorf("the largest tree: %d", e)
	}
}

func TestText(t *testing.T) {
	n := api.Node{Name: "a", At: 5, Attrs: []api.Attr{{Name: "b", Value: "<"}}, Kids: []api.Node{{Name: "c"}, {Name: "d", Text: " & "}, {Name: "e", Kids: []api.Node{{Name: "f", At: -1}}}}}
	want := `<a b="&lt;"><c/><d> &amp; </d><e><f/></e></a>`
	if s, e := tree.Text(n); s != want || e != api.OK {
		t.Errorf("%q, %d", s, e)
	}
	back, _, e := tree.Parse(want)
	if e != api.OK || !tree.Same(back, n) {
		t.Errorf("back: %v, %d", back, e)
	}
}

// chain returns a tree of a depth.
func chain(depth int) api.Node {
	n := api.Node{Name: "a"}
	for range depth - 1 {
		n = api.Node{Name: "a", Kids: []api.Node{n}}
	}
	return n
}

// endless returns a tree without an end.
func endless(name string) api.Node {
	kids := make([]api.Node, 2)
	kids[0] = api.Node{Name: name, Kids: kids}
	kids[1] = api.Node{Name: name}
	return kids[0]
}

func TestWrongTrees(t *testing.T) {
	kids := make([]api.Node, api.MaxNodes)
	for i := range kids {
		kids[i].Name = "a"
	}
	for _, c := range []struct {
		n api.Node
		e api.Errno
	}{
		{api.Node{}, api.ErrForm}, {api.Node{Name: "1"}, api.ErrForm}, {api.Node{Name: "a", Text: "\x01"}, api.ErrForm}, {api.Node{Name: "a", Attrs: []api.Attr{{Name: "b"}, {Name: "b"}}}, api.ErrForm},
		{api.Node{Name: "a", Text: " ", Kids: []api.Node{{Name: "b"}}}, api.ErrForm}, {chain(65), api.ErrForm}, {chain(64), api.OK},
		{api.Node{Name: "r", Kids: kids}, api.ErrForm}, {api.Node{Name: "r", Kids: kids[1:]}, api.OK}, {endless("a"), api.ErrForm},
		{api.Node{Name: "a", Text: strings.Repeat("x", api.MaxText)}, api.ErrLarge}, {api.Node{Name: "a", Text: strings.Repeat("x", api.MaxText-7)}, api.OK},
		{api.Node{Name: "a", Kids: []api.Node{{Name: "b", Text: strings.Repeat("x", api.MaxText)}, {Name: "c", Text: "y", Kids: []api.Node{{Name: "d"}}}}}, api.ErrForm},
	} {
		s, e := tree.Text(c.n)
		if e != c.e || (s == "") != (e != api.OK) {
			t.Errorf("%.20s: %d, want %d", c.n.Name, e, c.e)
		}
	}
}

func TestAttrAndFind(t *testing.T) {
	n := api.Node{Name: "a", Attrs: []api.Attr{{Name: "b", Value: "1"}, {Name: "c"}, {Name: "b", Value: "2"}}, Kids: []api.Node{
		{Name: "x", Text: "1"}, {Name: "y", Kids: []api.Node{{Name: "x", Text: "2"}}}, {Name: "x", Attrs: []api.Attr{{Name: "q"}}, Kids: []api.Node{{Name: "z"}}},
	}}
	for name, want := range map[string]string{"b": "1", "c": ""} {
		if v, ok := tree.Attr(n, name); v != want || !ok {
			t.Errorf("Attr %s: %q, %v", name, v, ok)
		}
	}
	if v, ok := tree.Attr(n, "d"); v != "" || ok {
		t.Errorf("Attr d: %q, %v", v, ok)
	}
	got := tree.Find(n, "x")
	if len(got) != 2 || !reflect.DeepEqual(got[0], n.Kids[0]) || !reflect.DeepEqual(got[1], n.Kids[2]) {
		t.Fatalf("Find: %v", got)
	}
	got[1].Attrs[0].Name, got[1].Kids[0].Name, got[0].Text = "no", "no", "no"
	if n.Kids[2].Attrs[0].Name != "q" || n.Kids[2].Kids[0].Name != "z" || n.Kids[0].Text != "1" {
		t.Error("what Find returns shares memory with its argument")
	}
	if got := tree.Find(n, "none"); len(got) != 0 {
		t.Errorf("Find none: %v", got)
	}
	shared := []api.Node{{Name: "k"}}
	twice := tree.Find(api.Node{Kids: []api.Node{{Name: "a", Kids: shared}, {Name: "a", Kids: shared}}}, "a")
	twice[0].Kids[0].Name = "other"
	if twice[1].Kids[0].Name != "k" {
		t.Error("two lists of a result share memory")
	}
	if got := tree.Find(endless("a"), "a"); len(got) != 2 {
		t.Errorf("Find in an endless tree: %d", len(got))
	}
}

func TestSame(t *testing.T) {
	a := api.Node{Name: "a", At: 1, Attrs: []api.Attr{{Name: "b", Value: "1"}}, Kids: []api.Node{{Name: "c", At: 2, Text: "x"}, {Name: "d"}}}
	b := api.Node{Name: "a", At: 9, Attrs: []api.Attr{{Name: "b", Value: "1"}}, Kids: []api.Node{{Name: "c", Text: "x", Kids: []api.Node{}}, {Name: "d", Attrs: []api.Attr{}}}}
	if !tree.Same(a, b) || !tree.Same(api.Node{}, api.Node{At: 3}) {
		t.Error("equal trees are not the same")
	}
	for _, other := range []api.Node{
		{}, {Name: "x", Attrs: a.Attrs, Kids: a.Kids}, {Name: "a", Kids: a.Kids}, {Name: "a", Attrs: a.Attrs}, {Name: "a", Attrs: a.Attrs, Kids: a.Kids, Text: "t"},
		{Name: "a", Attrs: []api.Attr{{Name: "b", Value: "2"}}, Kids: a.Kids}, {Name: "a", Attrs: a.Attrs, Kids: []api.Node{a.Kids[1], a.Kids[0]}},
		{Name: "a", Attrs: a.Attrs, Kids: []api.Node{{Name: "c", Text: "y"}, {Name: "d"}}}, {Name: "a", Attrs: a.Attrs, Kids: []api.Node{{Name: "c", Text: "x"}}},
	} {
		if tree.Same(a, other) || tree.Same(other, a) {
			t.Errorf("%v is the same", other)
		}
	}
	if !tree.Same(endless("a"), endless("a")) || tree.Same(endless("a"), endless("b")) || tree.Same(endless("a"), chain(9)) {
		t.Error("endless trees")
	}
	if !tree.Same(chain(100000), chain(100000)) || tree.Same(chain(100000), chain(99999)) {
		t.Error("deep trees")
	}
}
