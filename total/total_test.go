// Package total calls every function that the document lists with arguments of
// all sorts: none may panic, change an argument, share memory or answer another
// time otherwise, and beside an error there is nothing.
package total_test

import (
	"math"
	"math/rand"
	"reflect"
	"strings"
	"testing"

	"soffit/api"
	"soffit/boxes"
	"soffit/calc"
	"soffit/chars"
	"soffit/days"
	"soffit/deci"
	"soffit/duty"
	"soffit/expr"
	"soffit/file"
	"soffit/graph"
	"soffit/lex"
	"soffit/logic"
	"soffit/mark"
	"soffit/match"
	"soffit/model"
	"soffit/oracle"
	"soffit/policy"
	"soffit/sample"
	"soffit/sets"
	"soffit/solve"
	"soffit/spans"
	"soffit/suite"
	"soffit/tool"
	"soffit/tree"
	"soffit/unary"
	"soffit/value"
	"soffit/words"
)

// functions are all that the document lists.
func functions() map[string]any {
	return map[string]any{
		"deci.Make": deci.Make, "deci.Sound": deci.Sound, "deci.Compare": deci.Compare, "deci.Add": deci.Add, "deci.Neg": deci.Neg, "deci.Mul": deci.Mul, "deci.Div": deci.Div, "deci.Text": deci.Text, "deci.Parse": deci.Parse, "deci.At": deci.At,
		"days.Day": days.Day, "days.Date": days.Date, "days.Text": days.Text, "days.Parse": days.Parse, "days.Leap": days.Leap,
		"chars.Good": chars.Good, "chars.Bad": chars.Bad, "chars.Escape": chars.Escape, "chars.Unescape": chars.Unescape, "chars.Name": chars.Name,
		"value.Sound": value.Sound, "value.Compare": value.Compare, "value.Sort": value.Sort, "value.Text": value.Text, "value.Fits": value.Fits,
		"mark.Marks": mark.Marks, "mark.Text": mark.Text, "tree.Parse": tree.Parse, "tree.Text": tree.Text, "tree.Attr": tree.Attr, "tree.Find": tree.Find, "tree.Same": tree.Same,
		"lex.Tokens": lex.Tokens, "lex.Word": lex.Word, "lex.Join": lex.Join, "expr.Parse": expr.Parse, "expr.Text": expr.Text, "expr.Sound": expr.Sound, "expr.Names": expr.Names, "expr.Same": expr.Same,
		"unary.Parse": unary.Parse, "unary.Text": unary.Text, "unary.Sound": unary.Sound, "unary.Ends": unary.Ends, "unary.Same": unary.Same, "logic.And": logic.And, "logic.Or": logic.Or, "logic.Not": logic.Not, "logic.Truth": logic.Truth, "logic.Is": logic.Is,
		"calc.Eval": calc.Eval, "calc.Equal": calc.Equal, "calc.Less": calc.Less, "match.One": match.One, "match.All": match.All, "match.Row": match.Row,
		"spans.Join": spans.Join, "spans.Meet": spans.Meet, "spans.Without": spans.Without, "spans.Has": spans.Has, "spans.Near": spans.Near, "words.Make": words.Make, "words.Has": words.Has, "words.Meet": words.Meet, "words.Other": words.Other, "words.Empty": words.Empty, "words.Pick": words.Pick,
		"sets.Sound": sets.Sound, "sets.In": sets.In, "sets.Full": sets.Full, "sets.Of": sets.Of, "sets.One": sets.One, "sets.Meet": sets.Meet, "sets.Other": sets.Other, "sets.Empty": sets.Empty, "sets.Has": sets.Has, "sets.Pick": sets.Pick,
		"boxes.Full": boxes.Full, "boxes.With": boxes.With, "boxes.Empty": boxes.Empty, "boxes.Meet": boxes.Meet, "boxes.Join": boxes.Join, "boxes.Has": boxes.Has, "boxes.Pick": boxes.Pick, "policy.Known": policy.Known, "policy.Outcome": policy.Outcome, "graph.Order": graph.Order, "graph.Above": graph.Above,
		"model.Load": model.Load, "model.Sound": model.Sound, "model.Text": model.Text, "model.Same": model.Same, "model.Order": model.Order, "model.TypeOf": model.TypeOf, "oracle.Eval": oracle.Eval, "oracle.Case": oracle.Case, "duty.All": duty.All, "duty.Met": duty.Met,
		"solve.Reach": solve.Reach, "solve.Solve": solve.Solve, "suite.Greedy": suite.Greedy, "suite.Build": suite.Build, "file.Write": file.Write, "file.Read": file.Read, "tool.Run": tool.Run,
	}
}

// maker makes arguments.
type maker struct{ *rand.Rand }

func (k maker) number() int {
	list := []int{0, 1, 2, 3, 4, 5, 6, 7, 9, 10, 100, -1, -2, 70, 65, 43, 60, 62, 35, 85, 80, 730119, 3652058, 3652059, 999999999999, 1000000000000, -999999999999, math.MaxInt, math.MinInt, math.MaxInt - 1, 1 << 31, 1 << 32, 4096, 4097}
	return list[k.Intn(len(list))]
}

// pieces are what texts are made of.
func pieces() []string {
	return []string{
		"", "a", "b", "x", "i0", "d0", "i1", "null", "true", "false", "and", "or", "not(", "not", "if ", " then ", " else ", "1", "0.5", "-", "12", "(", ")", "[", "]", "..", ",", " ", "\n", "+", "*", "/", "=", "!=", "<", "<=", ">", ">=", `"`, `\`, `"a"`, `@"2000-01-01"`, "2000-01-01",
		"<a>", "</a>", "<a/>", `<a b="1">`, "<!--", "-->", "<![CDATA[", "]]>", "&amp;", "&#65;", "&#x41;", "&", ";", "é", "\ufffd", "\xff", "\x00", "\U0010ffff", strings.Repeat("a", 33), strings.Repeat("a", 257), "<model>", "</model>", `<input name="x" type="number"/>`, `<table policy="F">`, "<tests>", "<case>", `<in name="i0">`, "</in>",
	}
}

func (k maker) text() string {
	if k.Intn(12) == 0 {
		m := k.model()
		s, _ := model.Text(m)
		return s
	}
	list := pieces()
	var b strings.Builder
	for range k.Intn(6) {
		b.WriteString(list[k.Intn(len(list))])
	}
	return b.String()
}

func (k maker) model() api.Model {
	m := sample.Model(k.Intn(1000), sample.Size{Inputs: 3, Decisions: 3, Columns: 3, Rules: 3, Items: 3, Expressions: true})
	switch k.Intn(10) {
	case 0:
		m.Inputs[0].Name = k.text()
	case 1:
		m.Decisions[0].Policy = k.number()
	case 2:
		m.Decisions[0].Needs = append(m.Decisions[0].Needs, k.text())
	case 3:
		m.Decisions[0].Columns = append(m.Decisions[0].Columns, k.text())
	case 4:
		m.Inputs[0].Type = k.fill(reflect.TypeFor[api.Type](), 0).Interface().(api.Type)
	case 5:
		m.Decisions[0].Default = k.value()
	}
	return m
}

func (k maker) value() api.Value {
	list := []api.Value{{}, {Kind: api.Bool}, {Kind: api.Bool, N: 1}, {Kind: api.Number}, {Kind: api.Number, Dec: api.Dec{N: k.Intn(30)}}, {Kind: api.Text, Text: "a"}, {Kind: api.Text}, {Kind: api.Date, N: k.Intn(9)}, {Kind: api.Date, N: api.MaxDay}, {Kind: api.Number, Dec: api.Dec{N: 15, Scale: 1}}, {Kind: k.number(), N: k.number(), Text: k.text()}}
	return list[k.Intn(len(list))]
}

func (k maker) tests() api.Tests {
	t := api.Tests{Not: k.Intn(3) == 0}
	if k.Intn(4) == 0 {
		t.Any = true
		t.Not = k.Intn(9) == 0
		return t
	}
	for range k.Intn(4) {
		t.List = append(t.List, api.Test{Kind: 1 + k.Intn(6), Low: k.value()})
		if last := &t.List[len(t.List)-1]; last.Kind == api.IsBetween {
			last.High, last.OpenLow = k.value(), k.Intn(2) == 0
		}
	}
	return t
}

func (k maker) expr(depth int) api.Expr {
	op := 1 + k.Intn(18)
	if depth == 0 || op == api.OpValue {
		return api.Expr{Op: api.OpValue, Value: k.value()}
	}
	if op == api.OpName {
		return api.Expr{Op: op, Name: []string{"i0", "a", "if", "d0"}[k.Intn(4)]}
	}
	x := api.Expr{Op: op}
	count := map[int]int{api.OpNeg: 1, api.OpNot: 1, api.OpIf: 3}[op]
	if count == 0 {
		count = 2
	}
	for range count {
		x.Kids = append(x.Kids, k.expr(depth-1))
	}
	return x
}

// fill returns any value of a type, often one that is sound.
func (k maker) fill(t reflect.Type, depth int) reflect.Value {
	if k.Intn(8) != 0 {
		switch t {
		case reflect.TypeFor[api.Model]():
			return reflect.ValueOf(k.model())
		case reflect.TypeFor[api.Value]():
			return reflect.ValueOf(k.value())
		case reflect.TypeFor[api.Tests]():
			return reflect.ValueOf(k.tests())
		case reflect.TypeFor[api.Expr]():
			return reflect.ValueOf(k.expr(k.Intn(4)))
		case reflect.TypeFor[api.Type]():
			return reflect.ValueOf(api.Type{Kind: 1 + k.Intn(4), Allowed: api.Tests{Any: true}})
		}
	}
	v := reflect.New(t).Elem()
	switch t.Kind() {
	case reflect.Int:
		v.SetInt(int64(k.number()))
	case reflect.Bool:
		v.SetBool(k.Intn(2) == 0)
	case reflect.String:
		v.SetString(k.text())
	case reflect.Struct:
		for i := range t.NumField() {
			if k.Intn(3) != 0 {
				v.Field(i).Set(k.fill(t.Field(i).Type, depth+1))
			}
		}
	case reflect.Slice:
		n := k.Intn(4)
		if depth > 4 {
			n = 0
		}
		v.Set(reflect.MakeSlice(t, n, n+k.Intn(3)))
		for i := range n {
			v.Index(i).Set(k.fill(t.Elem(), depth+1))
		}
	}
	return v
}

// spread returns all slices that a value holds.
func spread(v reflect.Value) []reflect.Value {
	switch v.Kind() {
	case reflect.Slice:
		list := []reflect.Value{v}
		for i := range v.Len() {
			list = append(list, spread(v.Index(i))...)
		}
		return list
	case reflect.Struct:
		var list []reflect.Value
		for i := range v.NumField() {
			list = append(list, spread(v.Field(i))...)
		}
		return list
	}
	return nil
}

// clone returns a copy of all that a value holds, up to the slices' capacity.
func clone(v reflect.Value) reflect.Value {
	c := reflect.New(v.Type()).Elem()
	switch v.Kind() {
	case reflect.Slice:
		if v.IsNil() {
			return c
		}
		full := v.Slice(0, v.Cap())
		c.Set(reflect.MakeSlice(v.Type(), full.Len(), full.Len()))
		for i := range full.Len() {
			c.Index(i).Set(clone(full.Index(i)))
		}
		return c
	case reflect.Struct:
		for i := range v.NumField() {
			c.Field(i).Set(clone(v.Field(i)))
		}
		return c
	}
	c.Set(v)
	return c
}

// overlap reports whether two slices share memory.
func overlap(a, b reflect.Value) bool {
	if a.Cap() == 0 || b.Cap() == 0 {
		return false
	}
	x, y := a.Pointer(), b.Pointer()
	return x < y+uintptr(b.Cap())*b.Type().Elem().Size() && y < x+uintptr(a.Cap())*a.Type().Elem().Size()
}

func TestEverything(t *testing.T) {
	for name, f := range functions() {
		t.Run(name, func(t *testing.T) {
			t.Parallel()
			calls := 1500
			if strings.HasPrefix(name, "tool.") || strings.HasPrefix(name, "suite.Build") || strings.HasPrefix(name, "solve.") {
				calls = 300
			}
			k := maker{rand.New(rand.NewSource(8))}
			for range calls {
				try(t, name, reflect.ValueOf(f), k)
			}
		})
	}
}

// try calls a function twice with the same arguments.
func try(t *testing.T, name string, f reflect.Value, k maker) {
	var args, kept []reflect.Value
	for i := range f.Type().NumIn() {
		arg := k.fill(f.Type().In(i), 0)
		args, kept = append(args, arg), append(kept, clone(arg))
	}
	defer func() {
		if r := recover(); r != nil {
			t.Fatalf("%s(%v) panics: %v", name, args, r)
		}
	}()
	call := f.Call
	if f.Type().IsVariadic() {
		call = f.CallSlice
	}
	results := call(args)
	if again := call(args); !same(results, again) {
		t.Fatalf("%s(%v): %v, then %v", name, args, results, again)
	}
	for i := range args {
		if !reflect.DeepEqual(kept[i].Interface(), clone(args[i]).Interface()) {
			t.Fatalf("%s(%v): argument %d was changed", name, args, i)
		}
	}
	checkError(t, name, args, results)
	checkMemory(t, name, args, results)
}

func same(a, b []reflect.Value) bool {
	for i := range a {
		if !reflect.DeepEqual(a[i].Interface(), b[i].Interface()) {
			return false
		}
	}
	return true
}

// checkError checks that beside an error there is nothing but a place.
func checkError(t *testing.T, name string, args, results []reflect.Value) {
	last := len(results) - 1
	e, ok := results[last].Interface().(api.Errno)
	if !ok {
		return
	}
	for i, v := range results[:last] {
		place := i > 0 && i == last-1 && v.Kind() == reflect.Int && name != "days.Date"
		if e != api.OK && !place && !v.IsZero() && !(v.Kind() == reflect.Slice && v.Len() == 0) {
			t.Fatalf("%s(%v): %v beside %d", name, args, v, e)
		}
		if e == api.OK && place && !v.IsZero() {
			t.Fatalf("%s(%v): a place beside no error: %v", name, args, v)
		}
	}
}

// checkMemory checks that no slice of the results shares memory with another
// one or with an argument.
func checkMemory(t *testing.T, name string, args, results []reflect.Value) {
	var before, after []reflect.Value
	for _, v := range args {
		before = append(before, spread(v)...)
	}
	for _, v := range results {
		after = append(after, spread(v)...)
	}
	if len(after) > 400 {
		after = after[:400]
	}
	for i, a := range after {
		for _, b := range before {
			if overlap(a, b) {
				t.Fatalf("%s(%v): a result shares memory with an argument", name, args)
			}
		}
		for _, b := range after[:i] {
			if overlap(a, b) {
				t.Fatalf("%s(%v): two lists of the result share memory", name, args)
			}
		}
	}
}
