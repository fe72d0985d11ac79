package model_test

import (
	"math"
	"reflect"
	"slices"
	"strconv"
	"strings"
	"testing"

	"soffit/api"
	"soffit/model"
)

// rich is a model with everything that a model may have.
const rich = `<model> <!-- all -->
<input name="x" type="number" scale="2" allowed="[0..100]"/>
<input allowed="not(&quot;z&quot;)" type="text" name="t"></input>
<input name="b" type="bool"> </input><input name="d" type="date" scale="0"/>
<decision name="late" type="text"><need name="early"/><need name="t"/>
 <table policy="P" default="&quot;none&quot;"><order>"hi"</order><order> "lo" </order><column name="t"/><column name="early"/>
  <rule><cell>-</cell><cell>&gt;= 3, null</cell><out>"hi"</out></rule>
  <rule><cell>"a", "b"</cell><cell>not(1)</cell><out>"lo"</out></rule>
 </table></decision>
<decision name="early" type="number" scale="1"><need name="x"/><need name="d"/><table policy="+"><column name="x"/><rule><cell>&lt; 5.5</cell><out>-1.5</out></rule><rule><cell>(1..9]</cell><out>null</out></rule></table></decision>
<decision name="sum" type="bool"><need name="late"/><need name="b"/><expression> if b then late = "hi" else not(b)</expression></decision>
</model>`

func load(t *testing.T, s string) api.Model {
	t.Helper()
	m, at, e := model.Load(s)
	if e != api.OK || at != 0 {
		t.Fatalf("%.60s: %d, %d", s, at, e)
	}
	return m
}

func num(n, scale int) api.Value {
	return api.Value{Kind: api.Number, Dec: api.Dec{N: n, Scale: scale}}
}
func txt(s string) api.Value { return api.Value{Kind: api.Text, Text: s} }

func TestLoad(t *testing.T) {
	m := load(t, rich)
	if !model.Sound(m) || len(m.Inputs) != 4 || len(m.Decisions) != 3 {
		t.Fatalf("%v", m)
	}
	any := api.Tests{Any: true}
	is := func(list ...api.Value) (out []api.Test) {
		for _, v := range list {
			out = append(out, api.Test{Kind: api.IsValue, Low: v})
		}
		return out
	}
	inputs := []api.Input{
		{Name: "x", Type: api.Type{Kind: api.Number, Scale: 2, Allowed: api.Tests{List: []api.Test{{Kind: api.IsBetween, Low: num(0, 0), High: num(100, 0)}}}}},
		{Name: "t", Type: api.Type{Kind: api.Text, Allowed: api.Tests{Not: true, List: is(txt("z"))}}},
		{Name: "b", Type: api.Type{Kind: api.Bool, Allowed: any}}, {Name: "d", Type: api.Type{Kind: api.Date, Allowed: any}},
	}
	if !reflect.DeepEqual(m.Inputs, inputs) {
		t.Errorf("inputs: %v", m.Inputs)
	}
	late := api.Decision{Name: "late", Type: api.Type{Kind: api.Text, Allowed: any}, Needs: []string{"early", "t"}, Policy: 'P', Columns: []string{"t", "early"}, Default: txt("none"), Order: []api.Value{txt("hi"), txt("lo")}, Table: true, Rules: []api.Rule{
		{Cells: []api.Tests{any, {List: []api.Test{{Kind: api.IsAtLeast, Low: num(3, 0)}, {Kind: api.IsValue}}}}, Output: txt("hi")},
		{Cells: []api.Tests{{List: is(txt("a"), txt("b"))}, {Not: true, List: is(num(1, 0))}}, Output: txt("lo")},
	}}
	early := api.Decision{Name: "early", Type: api.Type{Kind: api.Number, Scale: 1, Allowed: any}, Needs: []string{"x", "d"}, Policy: '+', Columns: []string{"x"}, Table: true, Rules: []api.Rule{
		{Cells: []api.Tests{{List: []api.Test{{Kind: api.IsLess, Low: num(55, 1)}}}}, Output: num(-15, 1)},
		{Cells: []api.Tests{{List: []api.Test{{Kind: api.IsBetween, Low: num(1, 0), High: num(9, 0), OpenLow: true}}}}},
	}}
	if !reflect.DeepEqual(m.Decisions[0], late) || !reflect.DeepEqual(m.Decisions[1], early) {
		t.Errorf("tables: %v", m.Decisions[:2])
	}
	if d := m.Decisions[2]; d.Table || d.Expr.Op != api.OpIf || d.Policy != 0 || !slices.Equal(d.Needs, []string{"late", "b"}) {
		t.Errorf("expression: %v", d)
	}
	if order, e := model.Order(m); !slices.Equal(order, []int{1, 0, 2}) || e != api.OK {
		t.Errorf("order: %v, %d", order, e)
	}
}

func TestText(t *testing.T) {
	m := load(t, rich)
	s, e := model.Text(m)
	want := `<model><input name="x" type="number" scale="2" allowed="[0..100]"/><input name="t" type="text" allowed="not(&quot;z&quot;)"/><input name="b" type="bool"/><input name="d" type="date"/>` +
		`<decision name="late" type="text"><need name="early"/><need name="t"/><table policy="P" default="&quot;none&quot;"><order>&quot;hi&quot;</order><order>&quot;lo&quot;</order><column name="t"/><column name="early"/>` +
		`<rule><cell>-</cell><cell>&gt;= 3, null</cell><out>&quot;hi&quot;</out></rule><rule><cell>&quot;a&quot;, &quot;b&quot;</cell><cell>not(1)</cell><out>&quot;lo&quot;</out></rule></table></decision>` +
		`<decision name="early" type="number" scale="1"><need name="x"/><need name="d"/><table policy="+"><column name="x"/><rule><cell>&lt; 5.5</cell><out>-1.5</out></rule><rule><cell>(1..9]</cell><out>null</out></rule></table></decision>` +
		`<decision name="sum" type="bool"><need name="late"/><need name="b"/><expression>if b then (late = &quot;hi&quot;) else (not(b))</expression></decision></model>`
	if s != want || e != api.OK {
		t.Errorf("%s, %d", s, e)
	}
	if back := load(t, s); !model.Same(back, m) || !reflect.DeepEqual(back, m) {
		t.Errorf("back: %v", back)
	}
	if s, e := model.Text(api.Model{}); s != "" || e != api.ErrForm {
		t.Errorf("an unsound model: %q, %d", s, e)
	}
	many := load(t, rich)
	for range api.MaxNodes - 40 {
		many.Decisions[0].Order = append(many.Decisions[0].Order, api.Value{})
	}
	if s, e := model.Text(many); s != "" || e != api.ErrLarge {
		t.Errorf("a text that is too long: %d, %d", len(s), e)
	}
	for range 100 {
		many.Decisions[0].Order = append(many.Decisions[0].Order, api.Value{})
	}
	if s, e := model.Text(many); s != "" || e != api.ErrLarge && e != api.ErrForm {
		t.Errorf("too many elements: %d, %d", len(s), e)
	}
	long := api.Expr{Op: api.OpValue, Value: txt(strings.Repeat("a", 256))}
	for range 8 {
		long = api.Expr{Op: api.OpAdd, Kids: []api.Expr{long, long}}
	}
	many = load(t, rich)
	many.Decisions[2].Expr = long
	if s, e := model.Text(many); s != "" || e != api.ErrLarge {
		t.Errorf("an expression that is too long: %d, %d", len(s), e)
	}
}

// small is a model into which faults are put.
const small = `<model><input name="x" type="number"/><input name="y" type="text"/><decision name="d" type="number"><need name="x"/><need name="e"/><table policy="F" default="0"><order>1</order><column name="x"/><column name="e"/><rule><cell>5</cell><cell>true</cell><out>1</out></rule></table></decision><decision name="e" type="bool"><need name="x"/><expression>x = 1</expression></decision></model>`

func TestFaults(t *testing.T) {
	load(t, small)
	const shape, name, ref, cycle, text, typ = api.ErrShape, api.ErrName, api.ErrRef, api.ErrCycle, api.ErrText, api.ErrType
	for i, c := range []struct {
		old, new string
		at       string // where the wrong element begins
		e        api.Errno
	}{
		{`<model>`, `<model a="1">`, `<model`, shape}, {`<input name="y"`, `text<input name="y"`, `<model`, api.ErrTag}, {`<decision name="e"`, `<other/><decision name="e"`, `<other/>`, shape}, {`</model>`, `<input name="z" type="text"/></model>`, `<model`, shape},
		{`<input name="x" type="number"/><input name="y" type="text"/>`, ``, `<model`, shape}, {`name="x" type`, `type`, `<input type`, shape}, {`name="y" type="text"`, `name="y"`, `<input name="y"`, shape}, {`type="text"`, `type="string"`, `<input name="y"`, shape}, {`name="y"`, `name="if"`, `<input name="if"`, shape}, {`name="y"`, `name="1"`, `<input name="1"`, shape},
		{`type="text"`, `type="text" color="1"`, `<input name="y"`, shape}, {`type="text"/>`, `type="text">x</input>`, `<input name="y"`, shape}, {`type="text"/>`, `type="text"><a/></input>`, `<input name="y"`, shape}, {`type="number"/>`, `type="number" scale=""/>`, `<input name="x"`, shape}, {`type="number"/>`, `type="number" scale="001"/>`, `<input name="x"`, shape}, {`type="number"/>`, `type="number" scale="-1"/>`, `<input name="x"`, shape}, {`type="number"/>`, `type="number" scale="1x"/>`, `<input name="x"`, shape},
		{`<need name="e"/>`, `<need/>`, `<need/>`, shape}, {`<need name="e"/>`, `<need name="e" a=""/>`, `<need name="e"`, shape}, {`<need name="e"/>`, `<need name="e">x</need>`, `<need name="e"`, shape}, {`<need name="e"/>`, `<need name="e"><a/></need>`, `<need name="e"`, shape}, {`<need name="e"/>`, `<need name="not"/>`, `<need name="not"`, shape},
		{`<decision name="e"`, `<decision name=""`, `<decision name=""`, shape}, {`type="bool"`, `type="bools"`, `<decision name="e"`, shape}, {`<expression>x = 1</expression>`, ``, `<decision name="e"`, shape}, {`<expression>x = 1</expression>`, `<expression>1</expression><expression>x = 1</expression>`, `<decision name="e"`, shape}, {`</decision></model>`, `<need name="y"/></decision></model>`, `<decision name="e"`, shape}, {`<expression>`, `<expression a="">`, `<expression`, shape}, {`x = 1<`, `<a/><`, `<expression`, shape}, {`<table`, `<expression>1</expression><table`, `<decision name="d"`, shape},
		{` policy="F"`, ``, `<table`, shape}, {`policy="F"`, `policy="X"`, `<table`, shape}, {`policy="F"`, `policy="FF"`, `<table`, shape}, {`policy="F"`, `policy=""`, `<table`, shape}, {`policy="F"`, `policy="F" x=""`, `<table`, shape}, {`<column name="x"/><column name="e"/>`, ``, `<table`, shape}, {`<order>1</order><column name="x"/>`, `<column name="x"/><order>1</order>`, `<table`, shape}, {`<rule><cell>5</cell><cell>true</cell><out>1</out></rule>`, ``, `<table`, shape}, {`<order>1</order>`, `<order a="">1</order>`, `<order`, shape}, {`<order>1</order>`, `<order><a/></order>`, `<order`, shape},
		{`<column name="e"/>`, `<column name="e" type=""/>`, `<column name="e"`, shape}, {`<column name="e"/>`, `<column/>`, `<column/>`, shape}, {`<column name="e"/>`, `<column name="e">e</column>`, `<column name="e"`, shape}, {`<cell>true</cell>`, ``, `<rule`, shape}, {`<cell>true</cell>`, `<cell>true</cell><cell>-</cell>`, `<rule`, shape}, {`<out>1</out>`, ``, `<rule`, shape}, {`<out>1</out>`, `<out>1</out><out>1</out>`, `<rule`, shape}, {`<rule>`, `<rule n="1">`, `<rule`, shape}, {`<cell>5`, `<cell a="">5`, `<cell a`, shape}, {`<cell>5</cell>`, `<cell><a/></cell>`, `<cell><a`, shape}, {`<out>`, `<out a="">`, `<out`, shape}, {`<cell>5</cell>`, `<out>5</out>`, `<rule`, shape},
		{`name="y"`, `name="x"`, `<input name="x" type="text"`, name}, {`<decision name="e"`, `<decision name="x"`, `<decision name="x"`, name}, {`<decision name="e"`, `<decision name="d"`, `<decision name="d" type="bool"`, name}, {`<decision name="d"`, `<decision name="y"`, `<decision name="y"`, name},
		{`<need name="e"/>`, `<need name="q"/>`, `<need name="q"`, ref}, {`<need name="x"/><need name="e"/>`, `<need name="x"/><need name="e"/> <need name="x"/>`, ` <need name="x"`, ref}, {`<column name="e"/>`, `<column name="q"/>`, `<column name="q"`, ref}, {`<column name="e"/>`, `<column name="x" />`, `<column name="x" `, ref},
		{`<column name="e"/>`, `<column name="y"/>`, `<column name="y"`, ref}, {`<column name="e"/>`, `<column name="d"/>`, `<column name="d"`, ref}, {`<need name="x"/><need name="e"/>`, `<need name="e"/>`, `<column name="x"`, ref}, {`<need name="x"/><need name="e"/>`, ``, `<column name="x"`, ref}, {`<need name="e"/>`, `<need name="y"/>`, `<column name="e"`, ref},
		{`<need name="x"/><expression>`, `<need name="d"/><expression>`, `<decision name="d"`, cycle}, {`<need name="x"/><expression>`, `<need name="e"/><expression>`, `<decision name="d"`, cycle},
		{`type="number"/>`, `type="number" allowed=""/>`, `<input name="x"`, text}, {`type="bool"`, `type="bool" allowed="x"`, `<decision name="e"`, text}, {`default="0"`, `default="-"`, `<table`, text}, {`default="0"`, `default="1, 2"`, `<table`, text}, {`<order>1`, `<order>not(1)`, `<order`, text}, {`<order>1`, `<order>`, `<order`, text}, {`<cell>true`, `<cell>tru`, `<cell>tru<`, text}, {`<out>1`, `<out>&lt; 1`, `<out`, text}, {`x = 1`, `x = `, `<expression`, text}, {`x = 1`, `x = 1000000000000`, `<expression`, text}, {`<cell>true`, `<cell>`, `<cell><`, text},
		{`type="number"/>`, `type="number" scale="7"/>`, `<input name="x"`, typ}, {`type="number"/>`, `type="number" scale="99"/>`, `<input name="x"`, typ}, {`type="text"`, `type="text" scale="1"`, `<input name="y"`, typ}, {`type="bool"`, `type="bool" scale="2"`, `<decision name="e"`, typ}, {`<decision name="d" type="number"`, `<decision name="d" type="number" scale="10"`, `<decision name="d"`, typ}, {`default="0"`, `default="0.5"`, `<table`, typ}, {`default="0"`, `default="true"`, `<table`, typ}, {`<order>1`, `<order>"a"`, `<order`, typ}, {`<out>1`, `<out>1.5`, `<out`, typ}, {`<out>1`, `<out>"a"`, `<out`, typ}, {`<cell>5`, `<cell>"a"`, `<cell>"a`, typ}, {`<cell>true`, `<cell>not(1)`, `<cell>not`, typ}, {`x = 1`, `y = 1`, `<expression`, typ}, {`x = 1`, `q`, `<expression`, typ},
		{`<decision name="d" type="number"`, `<decision name="d" type="number" allowed="&lt; 1"`, `<order>`, typ},
	} {
		s := strings.Replace(small, c.old, c.new, 1)
		want := strings.Index(s, c.at)
		if s == small || want < 0 {
			t.Fatalf("%d: the test is wrong: %s", i, c.new)
		}
		want += len(c.at) - len(strings.TrimLeft(c.at, " "))
		m, at, e := model.Load(s)
		if at != want || e != c.e || len(m.Inputs) != 0 || len(m.Decisions) != 0 {
			t.Errorf("%d, %s: %d, %d, want %d, %d", i, c.new, at, e, want, c.e)
		}
	}
}

// places returns the positions in a text of elements at which an element may be
// put in, with the name of the element that would contain it.
func places(s string) map[int]string {
	list := make(map[int]string)
	var open []string
	for i := range len(s) {
		if s[i] != '<' {
			continue
		}
		if len(open) > 0 {
			list[i] = open[len(open)-1]
		}
		tag := s[i+1 : i+strings.IndexByte(s[i:], '>')]
		if tag[0] == '/' {
			open = open[:len(open)-1]
		} else if !strings.HasSuffix(tag, "/") {
			open = append(open, strings.Fields(tag)[0])
		}
	}
	return list
}

func TestOtherElements(t *testing.T) {
	known := map[string][]string{
		"model": {"input", "decision"}, "decision": {"need", "table", "expression"},
		"table": {"order", "column", "rule"}, "rule": {"cell", "out"},
	}
	seen := make(map[string]int)
	for at, parent := range places(small) {
		for _, name := range []string{"x", "model", "input", "decision", "need", "table", "expression", "order", "column", "rule", "cell", "out", "Rule"} {
			if known[parent] == nil || slices.Contains(known[parent], name) {
				continue
			}
			for _, other := range []string{"<" + name + "/>", "<" + name + ` policy="F"><cell>5</cell></` + name + ">"} {
				s := small[:at] + other + small[at:]
				seen[parent]++
				if m, got, e := model.Load(s); got != at || e != api.ErrShape || len(m.Inputs) != 0 {
					t.Errorf("%s in %s: %d, %d, want %d, %d", other, parent, got, e, at, api.ErrShape)
				}
			}
		}
	}
	for parent := range known {
		if seen[parent] == 0 {
			t.Errorf("nothing was put into %s", parent)
		}
	}
}

func TestOtherElementsAndFaults(t *testing.T) {
	const other = "<x/>"
	for i, c := range []struct {
		list []string // pairs: what is replaced, and by what
		at   string   // where the first wrong element begins
	}{
		// What an element lacks, has too much of or in another order is its own fault.
		{[]string{`<cell>5</cell>`, other}, `<rule`}, {[]string{`<out>1</out>`, other}, `<rule`}, {[]string{`<cell>5</cell>`, other + `<cell>5</cell><cell>6</cell>`}, `<rule`},
		{[]string{`<out>1</out>`, other, `<cell>5</cell>`, `<cell>5</cell><out>1</out>`}, `<rule`},
		{[]string{`<column name="x"/><column name="e"/>`, other}, `<table`}, {[]string{`<order>1</order><column name="x"/>`, `<column name="x"/>` + other + `<order>1</order>`}, `<table`},
		{[]string{`<column name="e"/>`, other + strings.Repeat(`<column name="e"/>`, api.MaxColumns)}, `<table`},
		{[]string{`<expression>x = 1</expression>`, other}, `<decision name="e"`}, {[]string{`<expression>`, other + `<expression>1</expression><expression>`}, `<decision name="e"`},
		{[]string{`<input name="x" type="number"/><input name="y" type="text"/>`, other}, `<model`}, {[]string{`</model>`, other + `<input name="z" type="text"/></model>`}, `<model`},
		// An element that is wrong itself comes before what it contains.
		{[]string{`<rule>`, `<rule a="">` + other}, `<rule`}, {[]string{`policy="F"`, `policy="X"`, `<order>`, other + `<order>`}, `<table`}, {[]string{`type="bool"`, `type="bools"`, `<expression>`, other + `<expression>`}, `<decision name="e"`}, {[]string{`<model>`, `<model a="">` + other}, `<model`},
		// Of several elements the first counts.
		{[]string{`<order>`, other + `<order>`, `<cell>5</cell>`, ``}, other}, {[]string{`<order>`, `<order a="">`, `<rule>`, other + `<rule>`}, `<order`}, {[]string{`<need name="e"/>`, `<need name="if"/>` + other}, `<need name="if"`}, {[]string{`<need name="e"/>`, other + `<need name="if"/>`}, other},
		{[]string{`<out>1</out>`, `<out a="">1</out>` + other}, `<out`}, {[]string{`<out>1</out>`, other + `<out a="">1</out>`}, other}, {[]string{`<input name="y"`, other + `<input name="if"`}, other}, {[]string{`<cell>true</cell>`, `<x><x/></x><cell>true</cell>`}, `<x><x/>`},
		// An element that has no child elements isn't as stated if it has one.
		{[]string{`type="text"/>`, `type="text">` + other + `</input>`}, `<input name="y"`}, {[]string{`<cell>5</cell>`, `<cell>` + other + `</cell>`}, `<cell>` + other}, {[]string{`x = 1<`, other + `<`}, `<expression`},
		// A stage after the first doesn't count.
		{[]string{`name="y"`, `name="x"`, `<out>1</out>`, `<out>1</out>` + other}, other}, {[]string{`x = 1`, `x = `, `</decision></model>`, other + `</decision></model>`}, other},
	} {
		s := strings.NewReplacer(c.list...).Replace(small)
		if _, at, e := model.Load(s); at != strings.Index(s, c.at) || e != api.ErrShape {
			t.Errorf("%d, %v: %d, %d, want %d, %d", i, c.list, at, e, strings.Index(s, c.at), api.ErrShape)
		}
	}
}

func TestPolicyTypes(t *testing.T) {
	s := `<model><input name="x" type="bool"/><decision name="d" type="text"><need name="x"/><table policy="F"><column name="x"/><rule><cell>-</cell><out>null</out></rule></table></decision></model>`
	load(t, s)
	for _, sign := range []string{"+", "#"} {
		if _, at, e := model.Load(strings.Replace(s, "F", sign, 1)); at != strings.Index(s, "<table") || e != api.ErrType {
			t.Errorf("%s: %d, %d", sign, at, e)
		}
		load(t, strings.Replace(strings.Replace(s, "F", sign, 1), "text", "number", 1))
	}
	for _, sign := range []string{"U", "A", "P", "&lt;", ">"} {
		load(t, strings.Replace(s, "F", sign, 1))
	}
}

func TestStages(t *testing.T) {
	// An earlier stage counts, even if its element is a later one.
	s := small
	at := func(sub string) int { return strings.Index(s, sub) }
	for _, c := range []struct {
		old, new, at string
		e            api.Errno
	}{
		{`x = 1`, `y = 1`, `<expression`, api.ErrType}, {`<cell>true`, `<cell>1`, `<cell>1`, api.ErrType}, {`<out>1<`, `<out>-<`, `<out`, api.ErrText}, {`<order>1`, `<order>()`, `<order`, api.ErrText},
		{`<need name="x"/><expression`, `<need name="d"/><expression`, `<decision name="d"`, api.ErrCycle}, {`<column name="e"/>`, `<column name="y"/>`, `<column name="y"`, api.ErrRef}, {`<need name="e"/>`, `<need name="q"/>`, `<need name="q"`, api.ErrRef}, {`<decision name="e"`, `<decision name="x"`, `<decision name="x"`, api.ErrName}, {`<expression>`, `<expression z="">`, `<expression`, api.ErrShape}, {`<cell>5`, `<cell z="">5`, `<cell z`, api.ErrShape}, {`</model>`, `&</model>`, `&<`, api.ErrName},
	} {
		s = strings.Replace(s, c.old, c.new, 1)
		if _, got, e := model.Load(s); got != at(c.at) || e != c.e {
			t.Errorf("%s: %d, %d, want %d, %d", c.new, got, e, at(c.at), c.e)
		}
	}
	if _, at, e := model.Load(""); at != 0 || e != api.ErrTag {
		t.Errorf("no text: %d, %d", at, e)
	}
	if _, at, e := model.Load("  <models/>"); at != 2 || e != api.ErrShape {
		t.Errorf("another element: %d, %d", at, e)
	}
}

func TestCounts(t *testing.T) {
	count := func(inputs, decisions, columns, rules int) string {
		var b strings.Builder
		b.WriteString("<model>")
		for i := range inputs {
			b.WriteString(`<input name="i` + strconv.Itoa(i) + `" type="bool"/>`)
		}
		for i := range decisions {
			b.WriteString(`<decision name="d` + strconv.Itoa(i) + `" type="bool">`)
			for c := range columns {
				b.WriteString(`<need name="i` + strconv.Itoa(c) + `"/>`)
			}
			b.WriteString(`<table policy="U">`)
			for c := range columns {
				b.WriteString(`<column name="i` + strconv.Itoa(c) + `"/>`)
			}
			for range rules {
				b.WriteString("<rule>" + strings.Repeat("<cell>-</cell>", columns) + "<out>true</out></rule>")
			}
			b.WriteString("</table></decision>")
		}
		return b.String() + "</model>"
	}
	load(t, count(6, 6, 4, 6))
	load(t, count(1, 1, 1, 1))
	for _, c := range []struct {
		counts [4]int
		at     string
	}{{[4]int{7, 1, 1, 1}, "<model"}, {[4]int{0, 1, 0, 1}, "<model"}, {[4]int{1, 0, 1, 1}, "<model"}, {[4]int{1, 7, 1, 1}, "<model"}, {[4]int{6, 2, 5, 1}, "<table"}, {[4]int{6, 2, 0, 1}, "<table"}, {[4]int{6, 1, 1, 7}, "<table"}, {[4]int{6, 1, 1, 0}, "<table"}} {
		s := count(c.counts[0], c.counts[1], c.counts[2], c.counts[3])
		if _, at, e := model.Load(s); at != strings.Index(s, c.at) || e != api.ErrShape {
			t.Errorf("%v: %d, %d", c.counts, at, e)
		}
	}
}

// free makes all cells of a model ask for nothing.
func free(m *api.Model) {
	for _, d := range m.Decisions {
		for _, r := range d.Rules {
			for i := range r.Cells {
				r.Cells[i] = api.Tests{Any: true}
			}
		}
	}
}

func TestSound(t *testing.T) {
	for i, spoil := range []func(m *api.Model){
		func(m *api.Model) { m.Inputs = nil }, func(m *api.Model) { m.Decisions = nil }, func(m *api.Model) { m.Inputs = make([]api.Input, 7) }, func(m *api.Model) { m.Inputs[0].Name = "if" }, func(m *api.Model) { m.Inputs[1].Name = "x" }, func(m *api.Model) { m.Decisions[0].Name = "x" }, func(m *api.Model) { m.Decisions[0].Name = "" },
		func(m *api.Model) { m.Inputs[0].Type.Scale = 7 }, func(m *api.Model) { m.Inputs[1].Type.Allowed = api.Tests{} }, func(m *api.Model) { m.Decisions[0].Type.Kind = api.Null }, func(m *api.Model) { m.Decisions[1].Type.Scale = math.MinInt },
		func(m *api.Model) { m.Decisions[0].Needs[0] = "q" }, func(m *api.Model) { m.Decisions[0].Needs = append(m.Decisions[0].Needs, "t") }, func(m *api.Model) { m.Decisions[1].Needs[1] = "late" }, func(m *api.Model) { m.Decisions[1].Needs[1] = "early" },
		func(m *api.Model) { m.Decisions[0].Columns[0] = "x" }, func(m *api.Model) { m.Decisions[0].Columns[1] = "t" }, func(m *api.Model) { m.Decisions[0].Columns = m.Decisions[0].Columns[:1] }, func(m *api.Model) {
			m.Decisions[0].Columns, m.Decisions[0].Rules[0].Cells, m.Decisions[0].Rules[1].Cells = nil, nil, nil
		},
		func(m *api.Model) { m.Decisions[0].Policy = 0 }, func(m *api.Model) { m.Decisions[0].Policy = '+' }, func(m *api.Model) { m.Decisions[0].Policy = '#' }, func(m *api.Model) { m.Decisions[0].Rules = nil }, func(m *api.Model) { m.Decisions[0].Rules = make([]api.Rule, 7) }, func(m *api.Model) { m.Decisions[0].Rules[0].Cells = nil }, func(m *api.Model) { m.Decisions[0].Rules[0].Cells[0] = api.Tests{} }, func(m *api.Model) {
			m.Decisions[0].Rules[0].Cells[0] = api.Tests{List: []api.Test{{Kind: api.IsValue, Low: num(1, 0)}}}
		},
		func(m *api.Model) { m.Decisions[1].Columns[0] = "b"; free(m) }, func(m *api.Model) { m.Decisions[0].Columns[1] = "t"; free(m) }, func(m *api.Model) { m.Decisions[0].Columns[1] = "q"; free(m) },
		func(m *api.Model) { m.Decisions[0].Rules[0].Output = num(1, 0) }, func(m *api.Model) { m.Decisions[0].Order[1] = num(1, 0) }, func(m *api.Model) { m.Decisions[0].Default = api.Value{Kind: api.Bool, N: 2} }, func(m *api.Model) { m.Decisions[1].Rules[0].Output = num(5, 2) },
		func(m *api.Model) { m.Decisions[0].Expr = m.Decisions[2].Expr }, func(m *api.Model) { m.Decisions[0].Expr.Name = "a" }, func(m *api.Model) { m.Decisions[0].Table = false }, func(m *api.Model) { m.Decisions[2].Table = true }, func(m *api.Model) { m.Decisions[2].Policy = 'F' }, func(m *api.Model) { m.Decisions[2].Columns = []string{"b"} }, func(m *api.Model) { m.Decisions[2].Rules = make([]api.Rule, 1) }, func(m *api.Model) { m.Decisions[2].Default.Kind = api.Bool }, func(m *api.Model) { m.Decisions[2].Order = make([]api.Value, 1) }, func(m *api.Model) { m.Decisions[2].Expr = api.Expr{} }, func(m *api.Model) { m.Decisions[2].Needs = m.Decisions[2].Needs[:1] },
	} {
		m := load(t, rich)
		spoil(&m)
		if model.Sound(m) {
			t.Errorf("%d: sound", i)
		}
		if s, e := model.Text(m); s != "" || e != api.ErrForm {
			t.Errorf("%d: %q, %d", i, s, e)
		}
		if o, e := model.Order(m); o != nil || e != api.ErrForm {
			t.Errorf("%d: %v, %d", i, o, e)
		}
		if o := load(t, rich); model.Same(o, m) || model.Same(m, o) {
			t.Errorf("%d: the same", i)
		}
	}
}

func TestSame(t *testing.T) {
	a, b := load(t, rich), load(t, rich)
	b.Decisions[0].Expr.Kids = []api.Expr{}
	b.Decisions[2].Rules = []api.Rule{}
	if !model.Same(a, b) || !model.Same(api.Model{}, api.Model{Inputs: []api.Input{}}) {
		t.Error("equal models are not the same")
	}
	for i, change := range []func(m *api.Model){
		func(m *api.Model) { m.Inputs = m.Inputs[:3] }, func(m *api.Model) { m.Inputs[0].Type.Scale = 1 }, func(m *api.Model) { m.Decisions[0].Needs[0], m.Decisions[0].Needs[1] = "t", "early" }, func(m *api.Model) { m.Decisions[0].Order = nil }, func(m *api.Model) { m.Decisions[0].Rules[1].Cells[0].Not = true }, func(m *api.Model) { m.Decisions[2].Expr.Kids[0].Name = "x" }, func(m *api.Model) { m.Decisions[0].Default = api.Value{} }, func(m *api.Model) { m.Decisions[0].Policy = 'F' }, func(m *api.Model) { m.Decisions = m.Decisions[1:] },
	} {
		c := load(t, rich)
		change(&c)
		if model.Same(a, c) || model.Same(c, a) {
			t.Errorf("%d: the same", i)
		}
	}
}

func TestTypeOf(t *testing.T) {
	m := load(t, rich)
	for name, want := range map[string]int{"x": api.Number, "t": api.Text, "d": api.Date, "late": api.Text, "early": api.Number, "sum": api.Bool} {
		if got, ok := model.TypeOf(m, name); got.Kind != want || !ok {
			t.Errorf("%s: %v, %v", name, got, ok)
		}
	}
	if got, ok := model.TypeOf(m, "q"); !reflect.DeepEqual(got, api.Type{}) || ok {
		t.Errorf("q: %v, %v", got, ok)
	}
	m.Decisions[0].Name, m.Inputs[3].Name = "x", "x"
	if got, _ := model.TypeOf(m, "x"); got.Kind != api.Number || got.Scale != 2 {
		t.Errorf("the first x: %v", got)
	}
}
