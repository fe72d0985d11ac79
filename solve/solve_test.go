package solve_test

import (
	"math"
	"strconv"
	"strings"
	"testing"

	"soffit/api"
	"soffit/boxes"
	"soffit/duty"
	"soffit/model"
	"soffit/oracle"
	"soffit/sample"
	"soffit/sets"
	"soffit/solve"
)

func load(t *testing.T, s string) api.Model {
	t.Helper()
	m, at, e := model.Load(s)
	if e != api.OK {
		t.Fatalf("%.60s: %d, %d", s, at, e)
	}
	return m
}

func num(n int) api.Value { return api.Value{Kind: api.Number, Dec: api.Dec{N: n}} }
func spans(ends ...int) api.Set {
	s := api.Set{Kind: api.Number}
	for i := 0; i < len(ends); i += 2 {
		s.Spans = append(s.Spans, api.Span{Low: ends[i], High: ends[i+1]})
	}
	return s
}

const small = `<model><input name="x" type="number"/><input name="b" type="bool"/>
<decision name="d" type="text"><need name="x"/><need name="b"/><table policy="F"><column name="x"/><column name="b"/><rule><cell>&lt; 5</cell><cell>-</cell><out>"low"</out></rule><rule><cell>[3..9]</cell><cell>true</cell><out>"mid"</out></rule><rule><cell>&lt; 2</cell><cell>true</cell><out>"no"</out></rule></table></decision>
<decision name="e" type="bool"><need name="d"/><table policy="U"><column name="d"/><rule><cell>"mid", "no"</cell><out>true</out></rule><rule><cell>"other"</cell><out>false</out></rule><rule><cell>-</cell><out>null</out></rule></table></decision>
<decision name="f" type="number"><need name="x"/><expression>x + 1</expression></decision>
<decision name="g" type="number"><need name="f"/><need name="x"/><table policy="F"><column name="f"/><column name="x"/><rule><cell>-</cell><cell>7</cell><out>1</out></rule></table></decision>
</model>`

// reached returns, of some inputs, those that Reach finds, as a text.
func reached(t *testing.T, m api.Model, name string, s api.Set, budget int) string {
	t.Helper()
	list, e := solve.Reach(m, name, s, budget)
	if e != api.OK {
		return "error"
	}
	var types []api.Type
	for _, in := range m.Inputs {
		types = append(types, in.Type)
	}
	var out strings.Builder
	for n := range 12 {
		for _, b := range []api.Value{{}, {Kind: api.Bool}, {Kind: api.Bool, N: 1}} {
			if boxes.Has(types, list, num(n), b) {
				out.WriteString(" " + strconv.Itoa(n) + []string{"n", "f", "t"}[b.Kind/api.Bool+b.N])
			}
		}
	}
	if boxes.Has(types, list, api.Value{}, api.Value{}) {
		out.WriteString(" null")
	}
	return out.String()
}

func TestReach(t *testing.T) {
	m := load(t, small)
	texts := func(list ...string) api.Set { return api.Set{Kind: api.Text, Words: api.Words{List: list}} }
	all := reached(t, m, "d", api.Set{Kind: api.Text, Words: api.Words{All: true}, Null: true}, api.Unlimited)
	if strings.Count(all, " ") != 37 {
		t.Errorf("everything: %s", all)
	}
	for i, c := range []struct {
		name string
		s    api.Set
		want string
	}{
		{"d", texts("mid"), " 5t 6t 7t 8t 9t"}, {"d", texts("low", "mid", "\x01"), " 0n 0f 0t 1n 1f 1t 2n 2f 2t 3n 3f 3t 4n 4f 4t 5t 6t 7t 8t 9t"}, {"d", texts("no"), ""}, {"d", texts(), ""}, {"d", texts("x", "\x01"), ""},
		{"x", spans(4, 4, math.MinInt, -api.MaxCoef), " 4n 4f 4t"}, {"x", spans(1, 0), ""}, {"b", api.Set{Kind: api.Bool, Bools: 5, Null: true}, " 0n 0f 1n 1f 2n 2f 3n 3f 4n 4f 5n 5f 6n 6f 7n 7f 8n 8f 9n 9f 10n 10f 11n 11f null"},
		{"e", api.Set{Kind: api.Bool, Bools: 3}, ""}, {"e", api.Set{Kind: api.Bool, Null: true}, all},
	} {
		if got := reached(t, m, c.name, c.s, api.Unlimited); got != c.want {
			t.Errorf("%d: %s, want %s", i, got, c.want)
		}
		for budget := range 4 {
			if got := reached(t, m, c.name, c.s, budget); got != c.want && got != "error" {
				t.Errorf("%d, budget %d: %s, want %s", i, budget, got, c.want)
			}
		}
	}
}

func TestWrongArguments(t *testing.T) {
	m := load(t, small)
	for i, c := range []struct {
		m      api.Model
		name   string
		s      api.Set
		budget int
		e      api.Errno
	}{
		{api.Model{}, "q", api.Set{}, -9, api.ErrForm}, {m, "q", spans(1, 2), 9, api.ErrArg}, {m, "x", api.Set{Kind: api.Date}, 9, api.ErrArg}, {m, "x", api.Set{}, 9, api.ErrArg}, {m, "x", spans(1, 2), -2, api.ErrArg}, {m, "x", spans(1, 2), math.MinInt, api.ErrArg}, {m, "f", api.Set{Kind: api.Text}, 9, api.ErrArg}, {m, "f", spans(1, 2), -2, api.ErrArg},
		{m, "f", spans(1, 2), 9, api.ErrNone}, {m, "g", spans(1, 2), api.Unlimited, api.ErrNone}, {m, "f", spans(), 0, api.ErrNone},
	} {
		if list, e := solve.Reach(c.m, c.name, c.s, c.budget); list != nil || e != c.e {
			t.Errorf("%d: %v, %d", i, list, e)
		}
	}
	good := api.Duty{Kind: api.Fires}
	for i, c := range []struct {
		m      api.Model
		d      api.Duty
		budget int
		e      api.Errno
	}{
		{api.Model{}, good, 9, api.ErrForm}, {api.Model{}, good, -2, api.ErrForm}, {m, good, -2, api.ErrArg}, {m, api.Duty{}, 9, api.ErrArg}, {m, api.Duty{Kind: api.Fires, Decision: 2}, 9, api.ErrArg}, {m, api.Duty{Kind: api.Side, Cell: 1}, 9, api.ErrArg}, {m, api.Duty{Kind: api.Fires, Rule: 3}, 9, api.ErrArg}, {m, api.Duty{Kind: api.Boundary, Value: num(4)}, 9, api.ErrArg},
	} {
		if v, in, e := solve.Solve(c.m, c.d, c.budget); v != 0 || in != nil || e != c.e {
			t.Errorf("%d: %d, %v, %d", i, v, in, e)
		}
	}
}

func TestSolve(t *testing.T) {
	m := load(t, small)
	for i, c := range []struct {
		d       api.Duty
		budget  int
		verdict int
	}{
		{api.Duty{Kind: api.Fires}, api.Unlimited, api.Hit}, {api.Duty{Kind: api.Side}, api.Unlimited, api.Hit}, {api.Duty{Kind: api.Fires, Rule: 1}, api.Unlimited, api.Hit}, {api.Duty{Kind: api.Side, Rule: 1, Cell: 1}, api.Unlimited, api.Hit}, {api.Duty{Kind: api.Boundary, Value: num(5)}, 1, api.Hit}, {api.Duty{Kind: api.Boundary, Value: num(9)}, api.Unlimited, api.Hit},
		{api.Duty{Kind: api.Fires, Decision: 1}, api.Unlimited, api.Hit}, {api.Duty{Kind: api.Side, Decision: 1}, api.Unlimited, api.Hit}, {api.Duty{Kind: api.Fires, Decision: 1, Rule: 1}, api.Unlimited, api.Unsat}, {api.Duty{Kind: api.Side, Decision: 1, Rule: 1}, api.Unlimited, api.Hit}, {api.Duty{Kind: api.Fires, Decision: 1, Rule: 2}, api.Unlimited, api.Hit},
		{api.Duty{Kind: api.Fires, Decision: 3}, api.Unlimited, api.Unknown}, {api.Duty{Kind: api.Side, Decision: 3, Cell: 1}, api.Unlimited, api.Unknown}, {api.Duty{Kind: api.Boundary, Decision: 3, Cell: 1, Value: num(7)}, 1, api.Hit}, {api.Duty{Kind: api.Boundary, Decision: 3, Cell: 1, Value: num(7)}, math.MaxInt, api.Hit},
	} {
		v, in, e := solve.Solve(m, c.d, c.budget)
		if v != c.verdict || e != api.OK || (v == api.Hit) != (in != nil) {
			t.Errorf("%d: %d, %v, %d", i, v, in, e)
		}
		if ok, e := duty.Met(m, c.d, in...); v == api.Hit && (!ok || e != api.OK) {
			t.Errorf("%d: %v, %d", i, in, e)
		}
	}
	contrary := load(t, `<model><input name="x" type="number" allowed="&lt; 3"/><decision name="d" type="bool"><need name="x"/><table policy="U"><column name="x"/><rule><cell>4</cell><out>true</out></rule><rule><cell>&gt; 0</cell><out>true</out></rule></table></decision></model>`)
	if v, in, e := solve.Solve(contrary, api.Duty{Kind: api.Fires}, api.Unlimited); v != api.Unsat || in != nil || e != api.OK {
		t.Errorf("contrary: %d, %v, %d", v, in, e)
	}
	idle := load(t, `<model><input name="x" type="number"/><input name="b" type="bool"/><decision name="d" type="bool"><need name="x"/><need name="b"/><table policy="U"><column name="x"/><column name="b"/><rule><cell>-</cell><cell>-</cell><out>true</out></rule></table></decision></model>`)
	for _, budget := range []int{1, 2, api.MaxBoxes, api.Unlimited} {
		if v, in, e := solve.Solve(idle, api.Duty{Kind: api.Fires}, budget); v != api.Hit || len(in) != 2 || e != api.OK {
			t.Errorf("idle, budget %d: %d, %v, %d", budget, v, in, e)
		}
	}
}

// checkReach compares Reach with all inputs of a model.
func checkReach(t *testing.T, number int, m api.Model, budget int) {
	t.Helper()
	inputs := sample.Inputs(m)
	var types []api.Type
	for _, in := range m.Inputs {
		types = append(types, in.Type)
	}
	for i, d := range m.Decisions {
		choices := sample.Values(d.Type)
		for k, v := range choices {
			s, _ := sets.One(d.Type, v)
			if k%2 == 1 {
				s, _ = sets.Other(d.Type, s)
			}
			list, e := solve.Reach(m, d.Name, s, budget)
			if e == api.ErrNone || e == api.ErrFull {
				continue
			}
			if e != api.OK {
				t.Fatalf("%d: %d", number, e)
			}
			if budget >= 0 && len(list) > budget {
				t.Fatalf("%d: %d boxes for %d", number, len(list), budget)
			}
			for _, box := range list {
				if boxes.Empty(box) || len(box) != len(types) {
					t.Fatalf("%d: an empty box", number)
				}
			}
			for _, in := range inputs {
				out, _, _ := oracle.Eval(m, in...)
				if boxes.Has(types, list, in...) != sets.Has(d.Type, s, out[i]) {
					t.Fatalf("%d, %s, %v: %v is %v", number, d.Name, s, in, out[i])
				}
			}
		}
	}
}

// verdicts returns the verdicts of all duties, compared with all inputs.
func verdicts(t *testing.T, number int, m api.Model, budget int) []int {
	t.Helper()
	all, e := duty.All(m)
	if e != api.OK {
		t.Fatalf("%d: %d", number, e)
	}
	inputs := sample.Inputs(m)
	var list []int
	for _, d := range all {
		v, in, e := solve.Solve(m, d, budget)
		if e != api.OK {
			t.Fatalf("%d, %v: %d", number, d, e)
		}
		list = append(list, v)
		if v == api.Hit {
			if ok, e := duty.Met(m, d, in...); !ok || e != api.OK {
				t.Fatalf("%d, %v: %v, %d", number, d, in, e)
			}
			continue
		}
		if in != nil {
			t.Fatalf("%d, %v: %v", number, d, in)
		}
		for _, in := range inputs {
			if v != api.Unsat {
				break
			}
			if ok, _ := duty.Met(m, d, in...); ok {
				t.Fatalf("%d, %v: unsatisfiable, but %v", number, d, in)
			}
		}
	}
	return list
}

func TestSomeModels(t *testing.T) {
	size := sample.Size{Inputs: 3, Decisions: 4, Columns: 3, Rules: 4, Items: 3, Expressions: true}
	counts := [4]int{}
	for number := range 60 {
		m := sample.Model(number, size)
		if !model.Sound(m) {
			t.Fatalf("%d is not sound", number)
		}
		checkReach(t, number, m, api.Unlimited)
		checkReach(t, number, m, 7)
		for _, v := range verdicts(t, number, m, api.Unlimited) {
			counts[v]++
		}
	}
	if counts[api.Hit] < 100 || counts[api.Unsat] < 20 || counts[api.Unknown] < 10 {
		t.Errorf("the models are too much alike: %v", counts)
	}
}

func TestBudgets(t *testing.T) {
	size := sample.Size{Inputs: 3, Decisions: 5, Columns: 4, Rules: 5, Items: 3}
	for number := range 30 {
		m := sample.Model(1000+number, size)
		all, _ := duty.All(m)
		for _, d := range all {
			least := 0
			for _, budget := range []int{0, 1, 2, 3, 5, 9, 20, 60, 300, 2000, api.MaxBoxes, math.MaxInt, api.Unlimited} {
				v, in, e := solve.Solve(m, d, budget)
				if e != api.OK {
					t.Fatalf("%d, %v: %d", number, d, e)
				}
				if least != 0 && v != least {
					t.Fatalf("%d, %v: %d, then %d", number, d, least, v)
				}
				if ok, _ := duty.Met(m, d, in...); v == api.Hit && !ok {
					t.Fatalf("%d, %v: %v", number, d, in)
				}
				if v != api.Unknown {
					least = v
				}
				if d.Kind == api.Boundary && budget != 0 && v != api.Hit {
					t.Fatalf("%d, %v: a bound with %d: %d", number, d, budget, v)
				}
			}
		}
		for _, d := range m.Decisions {
			done := -1
			for _, budget := range []int{0, 1, 4, 16, 64, 256, 1024, api.MaxBoxes, api.Unlimited} {
				list, e := solve.Reach(m, d.Name, api.Set{Kind: d.Type.Kind, Null: true}, budget)
				if e == api.OK && done >= 0 && len(list) != done || e != api.OK && done >= 0 {
					t.Fatalf("%d, %s: %d boxes with %d, before %d", number, d.Name, len(list), budget, done)
				}
				if e == api.OK {
					done = len(list)
				}
			}
		}
	}
}

func TestSmallModelsAreDecided(t *testing.T) {
	for _, size := range []sample.Size{{Inputs: 3, Decisions: 1, Columns: 4, Rules: 2, Items: 8}, {Inputs: 3, Decisions: 3, Columns: 2, Rules: 1, Items: 2}} {
		for number := range 150 {
			m := sample.Model(2000+number, size)
			for i, v := range verdicts(t, number, m, api.Unlimited) {
				if v == api.Unknown {
					t.Errorf("%d: duty %d is unknown", number, i)
				}
			}
		}
	}
}

func TestMemory(t *testing.T) {
	m := load(t, small)
	s := spans(1, 9)
	list, _ := solve.Reach(m, "x", s, api.Unlimited)
	again, _ := solve.Reach(m, "d", api.Set{Kind: api.Text, Words: api.Words{List: []string{"low", "mid"}}}, api.Unlimited)
	if len(again) < 2 {
		t.Fatalf("%v", again)
	}
	list[0][0].Spans[0].Low = 5
	for i := range again[0] {
		again[0][i].Bools = 99
		for k := range again[0][i].Spans {
			again[0][i].Spans[k].Low = 77
		}
	}
	if s.Spans[0].Low != 1 || again[1][0].Spans[0].Low == 77 || again[1][1].Bools == 99 {
		t.Error("boxes share memory")
	}
}
