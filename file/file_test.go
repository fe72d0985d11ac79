package file_test

import (
	"reflect"
	"strings"
	"testing"

	"soffit/api"
	"soffit/file"
	"soffit/model"
	"soffit/sample"
	"soffit/suite"
)

const text = `<model><input name="x" type="number" scale="1" allowed="&lt; 50"/><input name="t" type="text"/><decision name="d" type="date"><need name="x"/><table policy="F" default="@&quot;2000-01-01&quot;"><column name="x"/><rule><cell>5</cell><out>null</out></rule></table></decision></model>`

func load(t *testing.T, s string) api.Model {
	t.Helper()
	m, at, e := model.Load(s)
	if e != api.OK {
		t.Fatalf("%.60s: %d, %d", s, at, e)
	}
	return m
}

func num(n, scale int) api.Value {
	return api.Value{Kind: api.Number, Dec: api.Dec{N: n, Scale: scale}}
}
func txt(s string) api.Value { return api.Value{Kind: api.Text, Text: s} }
func day(n int) api.Value    { return api.Value{Kind: api.Date, N: n} }

func cases() []api.Case {
	return []api.Case{
		{Inputs: []api.Value{num(-15, 1), txt("a\"<\\&\n")}, Expected: []api.Value{day(730119)}},
		{Inputs: []api.Value{{}, {}}, Expected: []api.Value{{}}},
	}
}

const written = `<tests><case><in name="x">-1.5</in><in name="t">&quot;a\&quot;&lt;\\&amp;&#10;&quot;</in><out name="d">@&quot;2000-01-01&quot;</out></case><case><in name="x">null</in><in name="t">null</in><out name="d">null</out></case></tests>`

func TestWrite(t *testing.T) {
	m := load(t, text)
	if s, e := file.Write(m, cases()...); s != written || e != api.OK {
		t.Errorf("%s, %d", s, e)
	}
	if s, e := file.Write(m); s != "<tests/>" || e != api.OK {
		t.Errorf("none: %s, %d", s, e)
	}
	for i, spoil := range []func(c *api.Case){
		func(c *api.Case) { c.Inputs = c.Inputs[:1] }, func(c *api.Case) { c.Inputs = append(c.Inputs, api.Value{}) }, func(c *api.Case) { c.Expected = nil }, func(c *api.Case) { c.Inputs, c.Expected = c.Inputs[:1], append(c.Expected, api.Value{}) }, func(c *api.Case) { c.Inputs[0] = num(50, 0) }, func(c *api.Case) { c.Inputs[0] = num(25, 2) }, func(c *api.Case) { c.Inputs[1] = num(1, 0) }, func(c *api.Case) { c.Expected[0] = txt("a") }, func(c *api.Case) { c.Expected[0] = day(-1) }, func(c *api.Case) { c.Inputs[1] = txt("\x01") },
	} {
		list := cases()
		spoil(&list[1])
		if s, e := file.Write(m, list...); s != "" || e != api.ErrForm {
			t.Errorf("%d: %s, %d", i, s, e)
		}
	}
	if s, e := file.Write(api.Model{}); s != "" || e != api.ErrForm {
		t.Errorf("an unsound model: %s, %d", s, e)
	}
}

func TestLargeFiles(t *testing.T) {
	m := load(t, text)
	one := cases()[1]
	var list []api.Case
	empty, _ := file.Write(m, one)
	size := len(empty) - len("<tests></tests>")
	for range (api.MaxText - len("<tests></tests>")) / size {
		list = append(list, one)
	}
	s, e := file.Write(m, list...)
	if len(s) != len("<tests></tests>")+size*len(list) || e != api.OK {
		t.Errorf("%d cases: %d, %d", len(list), len(s), e)
	}
	if back, _, e := file.Read(m, s); len(back) != len(list) || e != api.OK {
		t.Errorf("back: %d, %d", len(back), e)
	}
	if s, e := file.Write(m, append(list, one)...); s != "" || e != api.ErrLarge {
		t.Errorf("one more: %d, %d", len(s), e)
	}
	for range 4 {
		list = append(list, list...)
	}
	if s, e := file.Write(m, list...); s != "" || e != api.ErrLarge {
		t.Errorf("%d cases: %d, %d", len(list), len(s), e)
	}
	list[len(list)-1].Expected = nil
	if s, e := file.Write(m, list...); s != "" || e != api.ErrForm {
		t.Errorf("many cases, one of them wrong: %d, %d", len(s), e)
	}
}

func TestRead(t *testing.T) {
	m := load(t, text)
	spaced := strings.ReplaceAll(strings.ReplaceAll(written, "><", ">\n <!-- c --><"), "null<", " null\n<")
	for _, s := range []string{written, spaced} {
		if got, at, e := file.Read(m, s); !reflect.DeepEqual(got, cases()) || at != 0 || e != api.OK {
			t.Errorf("%s: %v, %d, %d", s, got, at, e)
		}
	}
	for _, s := range []string{"<tests/>", "<tests> </tests>"} {
		if got, at, e := file.Read(m, s); len(got) != 0 || at != 0 || e != api.OK {
			t.Errorf("%s: %v, %d, %d", s, got, at, e)
		}
	}
	if got, at, e := file.Read(api.Model{}, "<"); got != nil || at != 0 || e != api.ErrForm {
		t.Errorf("an unsound model: %v, %d, %d", got, at, e)
	}
}

func TestWrongTexts(t *testing.T) {
	m := load(t, text)
	const shape, word, typ = api.ErrShape, api.ErrText, api.ErrType
	for i, c := range []struct {
		old, new, at string
		e            api.Errno
	}{
		{`<tests>`, ` <test>`, `</tests>`, api.ErrTag}, {`<tests>`, `<tests a="1">`, `<tests`, shape}, {`</tests>`, `<other/></tests>`, `<tests`, shape}, {`</tests>`, `<in name="x">1</in></tests>`, `<tests`, shape}, {`<case>`, `<case n="1">`, `<case`, shape}, {`<in name="x">-1.5</in>`, ``, `<case`, shape}, {`<in name="x">-1.5</in>`, `<in name="x">-1.5</in><in name="x">-1.5</in>`, `<case`, shape}, {`<out name="d">@&quot;2000-01-01&quot;</out>`, ``, `<case`, shape}, {`<out name="d">@&quot;2000-01-01&quot;</out>`, `<in name="d">null</in>`, `<case`, shape}, {`<in name="x">-1.5</in>`, `<value name="x">-1.5</value>`, `<case`, shape},
		{`<in name="x">-1.5</in><in name="t">`, `<in name="t">-1.5</in><in name="x">`, `<in name="t">-1.5`, shape}, {`<in name="x">-`, `<in>-`, `<in>`, shape}, {`<in name="x">-`, `<in name="x" a="">-`, `<in name="x" a`, shape}, {`<in name="x">-`, `<in name="y">-`, `<in name="y"`, shape}, {`-1.5`, `<a/>`, `<in name="x"><a`, shape}, {`<out name="d">@`, `<out name="e">@`, `<out name="e"`, shape},
		{`-1.5`, ``, `<in name="x"><`, word}, {`-1.5`, `-`, `<in name="x">-<`, word}, {`-1.5`, `1, 2`, `<in name="x">1,`, word}, {`-1.5`, `&lt; 2`, `<in name="x">&lt`, word}, {`-1.5`, `not(1)`, `<in name="x">not`, word}, {`-1.5`, `[1..2]`, `<in name="x">[`, word}, {`-1.5`, `x`, `<in name="x">x`, word}, {`-1.5`, `01`, `<in name="x">01`, word},
		{`-1.5`, `-1.55`, `<in name="x">-1.55`, typ}, {`-1.5`, `50`, `<in name="x">50`, typ}, {`-1.5`, `true`, `<in name="x">true`, typ}, {`@&quot;2000`, `&quot;2000`, `<out name="d">&quot`, typ},
		// The first element that is wrong counts, whatever its error is.
		{`-1.5</in><in name="t">`, `50</in><in name="q">`, `<in name="x">50`, typ}, {`-1.5</in><in name="t">`, `x</in><in>`, `<in name="x">x`, word}, {`<in name="x">null</in>`, `<a/>`, `<case><a`, shape}, {`<in name="x">null</in>`, `<in name="x">?</in>`, `<in name="x">?`, word},
	} {
		s := strings.Replace(written, c.old, c.new, 1)
		at := strings.Index(s, c.at)
		if s == written || at < 0 {
			t.Fatalf("%d: the test is wrong", i)
		}
		if got, place, e := file.Read(m, s); got != nil || place != at || e != c.e {
			t.Errorf("%d, %s: %v, %d, %d, want %d, %d", i, c.new, got, place, e, at, c.e)
		}
	}
	for s, at := range map[string]int{" <case/>": 1, "<tests><case> x </case></tests>": 7, "<tests>x</tests>": 0, "<tests><case/></tests>": 7} {
		if got, place, e := file.Read(m, s); got != nil || place != at || e != api.ErrShape {
			t.Errorf("%s: %v, %d, %d", s, got, place, e)
		}
	}
	if _, at, e := file.Read(m, ""); at != 0 || e != api.ErrTag {
		t.Errorf("no text: %d, %d", at, e)
	}
}

func TestSuitesThereAndBack(t *testing.T) {
	size := sample.Size{Inputs: 4, Decisions: 4, Columns: 4, Rules: 4, Items: 4, Expressions: true}
	for number := range 40 {
		m := sample.Model(4000+number, size)
		tests, _, _ := suite.Build(m, api.Unlimited)
		s, e := file.Write(m, tests...)
		back, at, f := file.Read(m, s)
		if e != api.OK || f != api.OK || at != 0 || len(back) != len(tests) || len(tests) > 0 && !reflect.DeepEqual(back, tests) {
			t.Fatalf("%d: %d, %d, %d: %v", number, e, f, at, back)
		}
	}
}
