package oracle_test

import (
	"reflect"
	"slices"
	"strings"
	"testing"

	"soffit/api"
	"soffit/model"
	"soffit/oracle"
	"soffit/shape"
	"soffit/value"
)

func load(t *testing.T, s string) api.Model {
	t.Helper()
	m, at, e := model.Load(s)
	if e != api.OK {
		t.Fatalf("%.60s: %d, %d", s, at, e)
	}
	return m
}

// values returns the values in a text, separated by ;.
func values(t *testing.T, s string) []api.Value {
	t.Helper()
	var list []api.Value
	for _, f := range strings.Split(s, ";") {
		v, ok := shape.Value(f)
		if !ok {
			t.Fatalf("%s", f)
		}
		list = append(list, v)
	}
	return list
}

func texts(list []api.Value) string {
	var out []string
	for _, v := range list {
		s, _ := value.Text(v)
		out = append(out, s)
	}
	return strings.Join(out, ";")
}

// chain is a model whose last decision is the first one that can be known.
const chain = `<model><input name="x" type="number"/><input name="b" type="bool"/>
<decision name="last" type="text" allowed="&quot;p&quot;, &quot;q&quot;"><need name="mid"/><need name="b"/><table policy="F" default="&quot;p&quot;"><column name="mid"/><column name="b"/>
<rule><cell>&gt; 3</cell><cell>true</cell><out>"q"</out></rule><rule><cell>null</cell><cell>-</cell><out>null</out></rule></table></decision>
<decision name="mid" type="number"><need name="low"/><need name="x"/><expression>low + x / 2</expression></decision>
<decision name="low" type="number" allowed="&lt; 3"><need name="x"/><table policy="#"><column name="x"/><rule><cell>&gt; 0</cell><out>null</out></rule><rule><cell>&gt; 5</cell><out>null</out></rule><rule><cell>&gt; 7, null</cell><out>null</out></rule></table></decision>
</model>`

func TestEval(t *testing.T) {
	m := load(t, chain)
	for _, c := range []struct {
		in, want string
		fired    [][]int
	}{
		{"0;true", `"p";0;0`, [][]int{nil, nil, nil}}, {"4;true", `"p";3;1`, [][]int{nil, nil, {0}}}, {"6;true", `"q";5;2`, [][]int{{0}, nil, {0, 1}}}, {"6;false", `"p";5;2`, [][]int{nil, nil, {0, 1}}}, {"6;null", `"p";5;2`, [][]int{nil, nil, {0, 1}}},
		// low is not below 3, so it is null, and so is the sum.
		{"8;true", `null;null;null`, [][]int{{1}, nil, {0, 1, 2}}}, {"null;true", `null;null;1`, [][]int{{1}, nil, {2}}}, {"1;true", `null;null;1`, [][]int{{1}, nil, {0}}},
	} {
		got, fired, e := oracle.Eval(m, values(t, c.in)...)
		if texts(got) != c.want || e != api.OK || len(fired) != 3 {
			t.Errorf("%s: %s, %d", c.in, texts(got), e)
			continue
		}
		for i := range fired {
			if !slices.Equal(fired[i], c.fired[i]) {
				t.Errorf("%s: %v", c.in, fired)
			}
		}
		k, e := oracle.Case(m, values(t, c.in)...)
		if texts(k.Inputs) != c.in || texts(k.Expected) != c.want || e != api.OK {
			t.Errorf("%s: %v, %d", c.in, k, e)
		}
	}
}

func TestPolicies(t *testing.T) {
	s := `<model><input name="x" type="number"/><decision name="d" type="number" allowed="not(9)"><need name="x"/><table policy="?" default="7"><order>2</order><column name="x"/>
<rule><cell>&gt; 1</cell><out>1</out></rule><rule><cell>&gt; 2</cell><out>2</out></rule><rule><cell>&gt; 3</cell><out>3</out></rule><rule><cell>&gt; 4</cell><out>3</out></rule></table></decision></model>`
	for sign, want := range map[string]string{
		"U": "7 1 null null null", "A": "7 1 null null null", "P": "7 1 2 2 2", "F": "7 1 1 1 1", "+": "7 1 3 6 null", "&lt;": "7 1 1 1 1", ">": "7 1 2 3 3", "#": "0 1 2 3 4",
	} {
		m := load(t, strings.Replace(s, "?", sign, 1))
		var got []string
		for n := range 5 {
			v, _, e := oracle.Eval(m, api.Value{Kind: api.Number, Dec: api.Dec{N: n + 1}})
			if e != api.OK {
				t.Fatalf("%d", e)
			}
			got = append(got, texts(v))
		}
		if strings.Join(got, " ") != want {
			t.Errorf("%s: %v", sign, got)
		}
	}
}

func TestWrongArguments(t *testing.T) {
	m := load(t, chain)
	unsound := load(t, chain)
	unsound.Decisions[1].Needs[1] = "b"
	for _, c := range []struct {
		m  api.Model
		in string
		e  api.Errno
	}{
		{api.Model{}, "1", api.ErrForm}, {unsound, "1;true;2", api.ErrForm}, {m, "1", api.ErrArg}, {m, "1;true;true", api.ErrArg}, {m, "1.5", api.ErrArg}, {m, "1.5;true", api.ErrRange}, {m, `"a";true`, api.ErrRange}, {m, "1;2", api.ErrRange},
	} {
		got, fired, e := oracle.Eval(c.m, values(t, c.in)...)
		k, f := oracle.Case(c.m, values(t, c.in)...)
		if got != nil || fired != nil || e != c.e || f != c.e || !reflect.DeepEqual(k, api.Case{}) {
			t.Errorf("%s: %v, %v, %d, %d", c.in, got, fired, e, f)
		}
	}
	if _, _, e := oracle.Eval(m); e != api.ErrArg {
		t.Errorf("no inputs: %d", e)
	}
	if _, _, e := oracle.Eval(m, api.Value{Kind: api.Number, Dec: api.Dec{N: 10, Scale: 1}}, api.Value{}); e != api.ErrRange {
		t.Errorf("an unsound input: %d", e)
	}
}

func TestMemory(t *testing.T) {
	m := load(t, chain)
	in := values(t, "6;true")
	k, _ := oracle.Case(m, in...)
	k.Inputs[0] = api.Value{}
	if in[0].Kind != api.Number {
		t.Error("a case shares memory with the inputs")
	}
}
