package suite_test

import (
	"math"
	"math/rand"
	"reflect"
	"slices"
	"testing"

	"soffit/api"
	"soffit/duty"
	"soffit/model"
	"soffit/oracle"
	"soffit/sample"
	"soffit/solve"
	"soffit/suite"
)

func load(t *testing.T, s string) api.Model {
	t.Helper()
	m, at, e := model.Load(s)
	if e != api.OK {
		t.Fatalf("%.60s: %d, %d", s, at, e)
	}
	return m
}

func TestGreedy(t *testing.T) {
	for _, c := range []struct {
		lists [][]int
		want  []int
	}{
		{nil, nil}, {[][]int{nil, {}}, nil}, {[][]int{{1}, {1}}, []int{0}}, {[][]int{{1}, {1, 2}}, []int{1}}, {[][]int{{1, 1, 1}, {1, 2}}, []int{1}}, {[][]int{{3, 4}, {1, 2}, {2, 3}}, []int{0, 1}}, {[][]int{{-1}, {math.MaxInt, math.MinInt}}, []int{0, 1}},
		// The first one taken is not needed when the others are there.
		{[][]int{{1, 2, 3, 4}, {1, 2, 5}, {3, 4, 6}}, []int{1, 2}}, {[][]int{{1, 2, 5}, {3, 4, 6}, {1, 2, 3, 4}}, []int{0, 1}},
		// Of two, the last one taken is removed.
		{[][]int{{1, 2, 3}, {3, 4, 5}, {1, 5, 6}, {2, 4, 7}}, []int{0, 2, 3}},
		{[][]int{{5, 4, 5}, {1, 2}, {2, 3}}, []int{0, 1, 2}},
	} {
		kept := make([][]int, len(c.lists))
		for i := range c.lists {
			kept[i] = slices.Clone(c.lists[i])
		}
		if got := suite.Greedy(c.lists); !slices.Equal(got, c.want) {
			t.Errorf("%v: %v", c.lists, got)
		}
		for i := range kept {
			if !slices.Equal(kept[i], c.lists[i]) {
				t.Errorf("%v was changed", kept)
			}
		}
	}
}

// plainGreedy does what Greedy does, word for word.
func plainGreedy(lists [][]int) []int {
	numbers := func(of []int) map[int]int {
		have := map[int]int{}
		for _, i := range of {
			for _, n := range lists[i] {
				have[n] = 1
			}
		}
		return have
	}
	var taken []int
	for {
		have, best, most := numbers(taken), 0, 0
		for i, list := range lists {
			fresh := map[int]int{}
			for _, n := range list {
				if have[n] == 0 {
					fresh[n] = 1
				}
			}
			if len(fresh) > most {
				best, most = i, len(fresh)
			}
		}
		if most == 0 {
			break
		}
		taken = append(taken, best)
	}
	for k := len(taken) - 1; k >= 0; k-- {
		others := slices.Delete(slices.Clone(taken), k, k+1)
		if len(numbers(others)) == len(numbers(taken)) {
			taken = others
		}
	}
	slices.Sort(taken)
	return taken
}

func TestGreedyOfSomeLists(t *testing.T) {
	r := rand.New(rand.NewSource(7))
	for range 3000 {
		lists := make([][]int, r.Intn(9))
		for i := range lists {
			for range r.Intn(7) {
				lists[i] = append(lists[i], r.Intn(12))
			}
		}
		if got, want := suite.Greedy(lists), plainGreedy(lists); !slices.Equal(got, want) {
			t.Fatalf("%v: %v, want %v", lists, got, want)
		}
	}
}

// first is the example of the document.
const first = `<model><input name="x" type="number"/><decision name="d" type="number"><need name="x"/><table policy="F"><column name="x"/><rule><cell>&lt; 5</cell><out>1</out></rule></table></decision></model>`

func TestExample(t *testing.T) {
	tests, r, e := suite.Build(load(t, first), api.Unlimited)
	num := func(n int) api.Value { return api.Value{Kind: api.Number, Dec: api.Dec{N: n}} }
	want := []api.Case{{Inputs: []api.Value{num(0)}, Expected: []api.Value{num(1)}}, {Inputs: []api.Value{num(5)}, Expected: []api.Value{{}}}}
	if !reflect.DeepEqual(tests, want) || e != api.OK {
		t.Errorf("tests: %v, %d", tests, e)
	}
	if !reflect.DeepEqual(r, api.Report{Verdicts: []int{1, 1, 1}, Credits: [][]int{{0}, {1, 2}}, Pool: want}) {
		t.Errorf("report: %v", r)
	}
	tests[0].Inputs[0], tests[0].Expected[0] = num(9), num(9)
	if r.Pool[0].Inputs[0] != num(0) || r.Pool[0].Expected[0] != num(1) {
		t.Error("the tests share memory with the report")
	}
}

func TestWrongArguments(t *testing.T) {
	m := load(t, first)
	for _, c := range []struct {
		m      api.Model
		budget int
		e      api.Errno
	}{{api.Model{}, 9, api.ErrForm}, {api.Model{}, -2, api.ErrForm}, {m, -2, api.ErrArg}, {m, math.MinInt, api.ErrArg}} {
		if tests, r, e := suite.Build(c.m, c.budget); tests != nil || !reflect.DeepEqual(r, api.Report{}) || e != c.e {
			t.Errorf("%d: %v, %v, %d", c.budget, tests, r, e)
		}
	}
	none := load(t, `<model><input name="x" type="number"/><decision name="e" type="bool"><need name="x"/><expression>x = 1</expression></decision></model>`)
	if tests, r, e := suite.Build(none, 9); len(tests) != 0 || !reflect.DeepEqual(r, api.Report{}) || e != api.OK {
		t.Errorf("no duties: %v, %v, %d", tests, r, e)
	}
}

// least returns the least number of cases that satisfy as many duties as all.
func least(credits [][]int) int {
	all := map[int]int{}
	for _, list := range credits {
		for _, n := range list {
			all[n] = 1
		}
	}
	best := len(credits)
	for bits := range 1 << len(credits) {
		have, count := map[int]int{}, 0
		for i, list := range credits {
			if bits>>i&1 == 1 {
				count++
				for _, n := range list {
					have[n] = 1
				}
			}
		}
		if len(have) == len(all) && count < best {
			best = count
		}
	}
	return best
}

func TestSomeModels(t *testing.T) {
	size := sample.Size{Inputs: 3, Decisions: 3, Columns: 3, Rules: 3, Items: 3, Expressions: true}
	for number := range 80 {
		m := sample.Model(3000+number, size)
		for _, budget := range []int{api.Unlimited, 0, 1, 4} {
			tests, r, e := suite.Build(m, budget)
			if e != api.OK {
				t.Fatalf("%d: %d", number, e)
			}
			check(t, number, m, budget, tests, r)
		}
	}
}

func TestGreaterBudgets(t *testing.T) {
	size := sample.Size{Inputs: 3, Decisions: 5, Columns: 4, Rules: 5, Items: 3, Expressions: true}
	for number := range 40 {
		m := sample.Model(7000+number, size)
		duties, _ := duty.All(m)
		before := make([]int, len(duties))
		for _, budget := range []int{0, 1, 2, 4, 8, 30, 200, api.MaxBoxes, api.Unlimited} {
			_, r, e := suite.Build(m, budget)
			if e != api.OK {
				t.Fatalf("%d: %d", number, e)
			}
			for i, v := range r.Verdicts {
				if before[i] != v && (before[i] == api.Hit || before[i] == api.Unsat) {
					t.Fatalf("%d, budget %d: duty %v was %d, and is %d", number, budget, duties[i], before[i], v)
				}
			}
			before = r.Verdicts
		}
	}
}

// check compares a suite with the promises.
func check(t *testing.T, number int, m api.Model, budget int, tests []api.Case, r api.Report) {
	t.Helper()
	duties, _ := duty.All(m)
	var pool []api.Case
	verdicts := make([]int, len(duties))
	for i, d := range duties {
		v, in, _ := solve.Solve(m, d, budget)
		verdicts[i] = v
		c, e := oracle.Case(m, in...)
		if v == api.Hit && e == api.OK && !slices.ContainsFunc(pool, func(p api.Case) bool { return reflect.DeepEqual(p, c) }) {
			pool = append(pool, c)
		}
	}
	if len(pool) != len(r.Pool) || len(pool) > 0 && !reflect.DeepEqual(pool, r.Pool) {
		t.Fatalf("%d: pool %v, want %v", number, r.Pool, pool)
	}
	credits := make([][]int, len(pool))
	for i, c := range pool {
		for n, d := range duties {
			if ok, _ := duty.Met(m, d, c.Inputs...); ok {
				credits[i] = append(credits[i], n)
			}
		}
	}
	taken := suite.Greedy(credits)
	if len(taken) != len(tests) || len(r.Credits) != len(tests) {
		t.Fatalf("%d: %v, want %v", number, tests, taken)
	}
	most := 1
	for k, i := range taken {
		if !reflect.DeepEqual(tests[k], pool[i]) || !slices.Equal(r.Credits[k], credits[i]) {
			t.Fatalf("%d: test %d is %v, want %v", number, k, tests[k], pool[i])
		}
		most = max(most, len(credits[i]))
		for _, n := range credits[i] {
			verdicts[n] = api.Hit
		}
	}
	if !slices.Equal(verdicts, r.Verdicts) {
		t.Fatalf("%d: verdicts %v, want %v", number, r.Verdicts, verdicts)
	}
	factor := 0.0
	for n := range most {
		factor += 1 / float64(n+1)
	}
	if len(pool) <= 12 && float64(len(tests)) > float64(least(credits))*factor+1e-9 {
		t.Errorf("%d: %d tests, where %d would do", number, len(tests), least(credits))
	}
	for k := range tests {
		without := slices.Delete(slices.Clone(r.Credits), k, k+1)
		have := map[int]int{}
		for _, list := range without {
			for _, n := range list {
				have[n] = 1
			}
		}
		if !slices.ContainsFunc(r.Credits[k], func(n int) bool { return have[n] == 0 }) {
			t.Errorf("%d: test %d is not needed", number, k)
		}
	}
}
