package mark_test

import (
	"reflect"
	"strings"
	"testing"

	"soffit/api"
	"soffit/mark"
)

func TestMarks(t *testing.T) {
	for _, c := range []struct {
		s    string
		want []api.Mark
	}{
		{"", nil},
		{"<a>", []api.Mark{{Kind: api.Open, Name: "a"}}},
		{"<azAZ09_ z=\"\" A=\"\" Z9=\"\">", []api.Mark{{Kind: api.Open, Name: "azAZ09_", Attrs: []api.Attr{{Name: "z"}, {Name: "A"}, {Name: "Z9"}}}}},
		{"<a \t\r\n>", []api.Mark{{Kind: api.Open, Name: "a"}}},
		{"</a>", []api.Mark{{Kind: api.Close, Name: "a"}}},
		{"</a \n>", []api.Mark{{Kind: api.Close, Name: "a"}}},
		{"<a/>", []api.Mark{{Kind: api.Empty, Name: "a"}}},
		{`<a  b="1" c=""/>`, []api.Mark{{Kind: api.Empty, Name: "a", Attrs: []api.Attr{{Name: "b", Value: "1"}, {Name: "c"}}}}},
		{"<a\nb=\"x>y'&lt;&#9;\n\" >", []api.Mark{{Kind: api.Open, Name: "a", Attrs: []api.Attr{{Name: "b", Value: "x>y'<\t\n"}}}}},
		{"x&amp;y", []api.Mark{{Kind: api.Chars, Text: "x&y"}}},
		{" <a> é</a>\n", []api.Mark{{Kind: api.Chars, Text: " "}, {Kind: api.Open, At: 1, Name: "a"}, {Kind: api.Chars, At: 4, Text: " é"}, {Kind: api.Close, At: 7, Name: "a"}, {Kind: api.Chars, At: 11, Text: "\n"}}},
		{"<![CDATA[a<b&c]]d>]]>]]>", []api.Mark{{Kind: api.Chars, Text: "a<b&c]]d>"}, {Kind: api.Chars, At: 21, Text: "]]>"}}},
		{"<![CDATA[]]>", []api.Mark{{Kind: api.Chars}}},
		{"<!---->", nil},
		{"a<!-- <b> & - > -->b", []api.Mark{{Kind: api.Chars, Text: "a"}, {Kind: api.Chars, At: 19, Text: "b"}}},
		{"</a></b>", []api.Mark{{Kind: api.Close, Name: "a"}, {Kind: api.Close, At: 4, Name: "b"}}},
		{`<a b="1"/>`, []api.Mark{{Kind: api.Empty, Name: "a", Attrs: []api.Attr{{Name: "b", Value: "1"}}}}},
	} {
		got, at, e := mark.Marks(c.s)
		if !(len(got) == 0 && len(c.want) == 0) && !reflect.DeepEqual(got, c.want) || at != 0 || e != api.OK {
			t.Errorf("%q: %v, %d, %d", c.s, got, at, e)
		}
	}
}

func TestWrongMarks(t *testing.T) {
	for _, c := range []struct {
		s  string
		at int
		e  api.Errno
	}{
		{"x<", 1, api.ErrTag}, {"<a", 0, api.ErrTag}, {"<a ", 0, api.ErrTag}, {"<>", 0, api.ErrTag}, {"< a>", 0, api.ErrTag},
		{"<1a>", 0, api.ErrTag}, {"<a-b>", 0, api.ErrTag}, {"<a/ >", 0, api.ErrTag}, {"<a / >", 0, api.ErrTag}, {"</ a>", 0, api.ErrTag},
		{"</a b=\"1\">", 0, api.ErrTag}, {"</a", 0, api.ErrTag}, {"</a/>", 0, api.ErrTag}, {"<?xml?>", 0, api.ErrTag}, {"<!DOCTYPE a>", 0, api.ErrTag},
		{"<a b>", 0, api.ErrTag}, {"<a b=>", 0, api.ErrTag}, {"<a b='1'>", 0, api.ErrTag}, {"<a b =\"1\">", 0, api.ErrTag}, {"<a b= \"1\">", 0, api.ErrTag},
		{`<a b="1>`, 0, api.ErrTag}, {`<a b="1"c="2">`, 0, api.ErrTag}, {`<a 1b="1">`, 0, api.ErrTag}, {`xy<a b="1" b="2">`, 2, api.ErrTag},
		{"<" + strings.Repeat("a", 33) + ">", 0, api.ErrTag}, {"<a " + strings.Repeat("b", 33) + `="">`, 0, api.ErrTag},
		{"<!-- a", 0, api.ErrTag}, {"<!-->", 0, api.ErrTag}, {"<!--->", 0, api.ErrTag}, {"<!-- -- -->", 0, api.ErrTag}, {"<!----->", 0, api.ErrTag}, {"<!- a -->", 0, api.ErrTag},
		{"<![CDATA[ ]]", 0, api.ErrTag}, {"<![CDATA ]]>", 0, api.ErrTag}, {"<![cdata[]]>", 0, api.ErrTag},
		{"a\x01", 1, api.ErrChar}, {"a\xff<", 1, api.ErrChar}, {"a&b", 1, api.ErrName}, {"<a>x&lt;&y;</a>", 8, api.ErrName},
		{`<a b="x<y">`, 7, api.ErrChar}, {`<a b="&x;">`, 6, api.ErrName}, {"<a b=\"é\x02\">", 8, api.ErrChar},
		{"<![CDATA[é\x02]]>", 11, api.ErrChar}, {"<!--a\x02-->", 5, api.ErrChar}, {"<!--\x02-->", 4, api.ErrChar}, {"<![CDATA[\x02]]>", 9, api.ErrChar}, {"<!--\x02", 0, api.ErrTag}, {"<![CDATA[\x02", 0, api.ErrTag}, {"<!--\x02--x", 0, api.ErrTag},
		// Within one tag what occurs first counts.
		{`<a b="&x;" b="1">`, 6, api.ErrName}, {`<a b="1" b="&x;">`, 12, api.ErrName}, {`<a b="1" b="&x;`, 0, api.ErrTag}, {`<a b="&x;" c`, 6, api.ErrName},
		{`<a b="&x;`, 0, api.ErrTag}, {`<a c b="&x;">`, 0, api.ErrTag}, {`<a b="1" b="2" c="&x;">`, 0, api.ErrTag},
		{"<a>&<b", 3, api.ErrName}, {"<a\x02>", 0, api.ErrTag}, {"<a\x00b=\"\">", 0, api.ErrTag},
		{strings.Repeat("a", api.MaxText+1), 0, api.ErrLarge}, {"<" + strings.Repeat("a", api.MaxText), 0, api.ErrLarge},
	} {
		if got, at, e := mark.Marks(c.s); got != nil || at != c.at || e != c.e {
			t.Errorf("%.40q: %v, %d, %d, want %d, %d", c.s, got, at, e, c.at, c.e)
		}
	}
	if got, _, e := mark.Marks(strings.Repeat("a", api.MaxText)); len(got) != 1 || e != api.OK {
		t.Errorf("the greatest text: %d", e)
	}
}

func TestText(t *testing.T) {
	list := []api.Mark{
		{Kind: api.Chars, At: 77, Text: "a<\"é\n"}, {Kind: api.Open, Name: "a", Attrs: []api.Attr{{Name: "b", Value: "'&\t"}, {Name: "c"}}},
		{Kind: api.Empty, At: -5, Name: "b_1"}, {Kind: api.Empty, Name: "c", Attrs: []api.Attr{{Name: "x", Value: "1"}}}, {Kind: api.Close, Name: "zz"}, {Kind: api.Chars},
	}
	want := `a&lt;&quot;é&#10;<a b="&apos;&amp;&#9;" c=""><b_1/><c x="1"/></zz>`
	if s, e := mark.Text(list...); s != want || e != api.OK {
		t.Errorf("%q, %d", s, e)
	}
	if s, e := mark.Text(); s != "" || e != api.OK {
		t.Errorf("none: %q, %d", s, e)
	}
	back, _, e := mark.Marks(want)
	if s, f := mark.Text(back...); s != want || e != api.OK || f != api.OK {
		t.Errorf("back: %q, %d, %d", s, e, f)
	}
}

func TestWrongText(t *testing.T) {
	twice := []api.Attr{{Name: "a"}, {Name: "b"}, {Name: "a"}}
	for _, m := range []api.Mark{
		{}, {Kind: 5, Name: "a"}, {Kind: -1}, {Kind: api.Chars, Name: "a"}, {Kind: api.Chars, Attrs: []api.Attr{{Name: "a"}}}, {Kind: api.Chars, Text: "\x01"}, {Kind: api.Chars, Text: "\xff"},
		{Kind: api.Open, Name: "a", Text: "x"}, {Kind: api.Open}, {Kind: api.Open, Name: "1"}, {Kind: api.Open, Name: strings.Repeat("a", 33)}, {Kind: api.Open, Name: "a", Attrs: []api.Attr{{}}},
		{Kind: api.Open, Name: "a", Attrs: twice}, {Kind: api.Empty, Name: "a", Attrs: twice}, {Kind: api.Empty, Name: "a", Attrs: []api.Attr{{Name: "b", Value: "\xff"}}},
		{Kind: api.Empty, Name: "é"}, {Kind: api.Empty, Name: "a", Text: " "}, {Kind: api.Close}, {Kind: api.Close, Name: "a", Attrs: []api.Attr{{Name: "b"}}}, {Kind: api.Close, Name: "a", Text: "a"},
	} {
		big := api.Mark{Kind: api.Chars, Text: strings.Repeat("a", api.MaxText+1)}
		if s, e := mark.Text(big, m); s != "" || e != api.ErrForm {
			t.Errorf("%v: %q, %d", m, s, e)
		}
	}
	half := api.Mark{Kind: api.Chars, Text: strings.Repeat("a", api.MaxText/2)}
	if s, e := mark.Text(half, half); len(s) != api.MaxText || e != api.OK {
		t.Errorf("the greatest text: %d", e)
	}
	if s, e := mark.Text(half, half, api.Mark{Kind: api.Chars, Text: "a"}); s != "" || e != api.ErrLarge {
		t.Errorf("one byte too many: %d", e)
	}
	if s, e := mark.Text(api.Mark{Kind: api.Chars, Text: strings.Repeat("<", api.MaxText/4+1)}); s != "" || e != api.ErrLarge {
		t.Errorf("too long when escaped: %d", e)
	}
	if s, e := mark.Text(half, half, api.Mark{Kind: api.Chars}); len(s) != api.MaxText || e != api.OK {
		t.Errorf("the greatest text and nothing: %d", e)
	}
}
