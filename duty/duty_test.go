package duty_test

import (
	"slices"
	"strings"
	"testing"

	"soffit/api"
	"soffit/duty"
	"soffit/model"
	"soffit/shape"
)

const mixed = `<model><input name="x" type="number" scale="1" allowed="[0..9]"/><input name="t" type="text"/><input name="d" type="date"/><input name="b" type="bool"/>
<decision name="e" type="bool"><need name="x"/><expression>x = 1</expression></decision>
<decision name="p" type="number"><need name="x"/><need name="t"/><need name="e"/><table policy="F"><column name="t"/><column name="x"/><column name="e"/>
<rule><cell>"a"</cell><cell>[1..5], 2.55</cell><cell>-</cell><out>1</out></rule><rule><cell>-</cell><cell>&lt; 5, &gt; 20, null, 1</cell><cell>true</cell><out>2</out></rule></table></decision>
<decision name="q" type="number"><need name="p"/><need name="d"/><need name="b"/><need name="x"/><table policy="U"><column name="p"/><column name="d"/><column name="x"/><column name="b"/>
<rule><cell>1</cell><cell>not(@"2000-01-02", @"2000-01-01")</cell><cell>-</cell><cell>true</cell><out>1</out></rule></table></decision></model>`

func load(t *testing.T, s string) api.Model {
	t.Helper()
	m, at, e := model.Load(s)
	if e != api.OK {
		t.Fatalf("%.60s: %d, %d", s, at, e)
	}
	return m
}

func num(n, scale int) api.Value {
	return api.Value{Kind: api.Number, Dec: api.Dec{N: n, Scale: scale}}
}
func day(n int) api.Value { return api.Value{Kind: api.Date, N: n} }

func TestAll(t *testing.T) {
	want := []api.Duty{
		{Kind: api.Fires, Decision: 1}, {Kind: api.Side, Decision: 1}, {Kind: api.Side, Decision: 1, Cell: 1},
		{Kind: api.Fires, Decision: 1, Rule: 1}, {Kind: api.Side, Decision: 1, Rule: 1, Cell: 1}, {Kind: api.Side, Decision: 1, Rule: 1, Cell: 2},
		{Kind: api.Boundary, Decision: 1, Cell: 1, Value: num(1, 0)}, {Kind: api.Boundary, Decision: 1, Cell: 1, Value: num(5, 0)},
		{Kind: api.Fires, Decision: 2}, {Kind: api.Side, Decision: 2}, {Kind: api.Side, Decision: 2, Cell: 1}, {Kind: api.Side, Decision: 2, Cell: 3},
		{Kind: api.Boundary, Decision: 2, Cell: 1, Value: day(730119)}, {Kind: api.Boundary, Decision: 2, Cell: 1, Value: day(730120)},
	}
	if got, e := duty.All(load(t, mixed)); !slices.Equal(got, want) || e != api.OK {
		t.Errorf("%v, %d", got, e)
	}
	if got, e := duty.All(api.Model{}); got != nil || e != api.ErrForm {
		t.Errorf("an unsound model: %v, %d", got, e)
	}
	only := load(t, `<model><input name="x" type="number"/><decision name="e" type="bool"><need name="x"/><expression>x = 1</expression></decision></model>`)
	if got, e := duty.All(only); len(got) != 0 || e != api.OK {
		t.Errorf("no table: %v, %d", got, e)
	}
}

func values(t *testing.T, s string) []api.Value {
	t.Helper()
	var list []api.Value
	for _, f := range strings.Split(s, ";") {
		v, ok := shape.Value(f)
		if !ok {
			t.Fatalf("%s", f)
		}
		list = append(list, v)
	}
	return list
}

func TestMet(t *testing.T) {
	m := load(t, mixed)
	all, _ := duty.All(m)
	for in, want := range map[string]string{
		// Which of the 14 duties are satisfied.
		`1;"a";null;true`: "1..1..1.1.....", `1;"b";null;true`: ".1.1..1..1....", `9;"a";null;null`: "..1...........", `5;"a";@"2000-01-01";true`: "1......1..1.1.", `0;"a";@"2000-01-02";true`: "..1..1.......1", `null;null;@"1999-12-31";true`: ".....1...1....",
		`2;"a";@"1999-12-31";false`: "1....1.....1..", `2.5;"c";null;null`: ".1...1........",
	} {
		var got strings.Builder
		for _, d := range all {
			ok, e := duty.Met(m, d, values(t, in)...)
			if e != api.OK {
				t.Fatalf("%s, %v: %d", in, d, e)
			}
			if ok {
				got.WriteByte('1')
			} else {
				got.WriteByte('.')
			}
		}
		if got.String() != want {
			t.Errorf("%s: %s, want %s", in, got.String(), want)
		}
	}
}

func TestWrongArguments(t *testing.T) {
	m := load(t, mixed)
	good := values(t, `1;"a";null;true`)
	for i, c := range []struct {
		m  api.Model
		d  api.Duty
		in []api.Value
		e  api.Errno
	}{
		{api.Model{}, api.Duty{}, nil, api.ErrForm}, {m, api.Duty{}, good[:2], api.ErrArg}, {m, api.Duty{}, values(t, `99;"a";null;true`), api.ErrRange}, {m, api.Duty{}, good, api.ErrArg}, {m, api.Duty{Kind: api.Fires}, good, api.ErrArg}, {m, api.Duty{Kind: api.Fires, Decision: 1, Rule: 2}, good, api.ErrArg}, {m, api.Duty{Kind: api.Fires, Decision: 1, Cell: 1}, good, api.ErrArg}, {m, api.Duty{Kind: api.Fires, Decision: -1}, good, api.ErrArg}, {m, api.Duty{Kind: api.Side, Decision: 1, Cell: 2}, good, api.ErrArg}, {m, api.Duty{Kind: api.Boundary, Decision: 1, Cell: 1, Value: num(2, 0)}, good, api.ErrArg}, {m, api.Duty{Kind: api.Boundary, Decision: 1, Cell: 1, Rule: 1, Value: num(1, 0)}, good, api.ErrArg}, {m, api.Duty{Kind: 4, Decision: 1}, good, api.ErrArg}, {m, api.Duty{Kind: api.Fires, Decision: 99}, good, api.ErrArg},
		{m, api.Duty{Kind: 9}, values(t, `99;"a";null;true`), api.ErrRange},
	} {
		if ok, e := duty.Met(c.m, c.d, c.in...); ok || e != c.e {
			t.Errorf("%d: %v, %d", i, ok, e)
		}
	}
}
