package tool_test

import (
	"math"
	"slices"
	"strconv"
	"strings"
	"testing"

	"soffit/api"
	"soffit/duty"
	"soffit/file"
	"soffit/model"
	"soffit/oracle"
	"soffit/sample"
	"soffit/suite"
	"soffit/tool"
)

const first = `<model><input name="x" type="number"/><decision name="d" type="number"><need name="x"/><table policy="F"><column name="x"/><rule><cell>&lt; 5</cell><out>1</out></rule></table></decision></model>`

func TestExample(t *testing.T) {
	tests, report, at, e := tool.Run(first, api.Unlimited)
	if tests != `<tests><case><in name="x">0</in><out name="d">1</out></case><case><in name="x">5</in><out name="d">null</out></case></tests>` || at != 0 || e != api.OK {
		t.Errorf("%s, %d, %d", tests, at, e)
	}
	if report != "duties 3 hit 3 unsat 0 unknown 0 tests 2\nfires d 1 hit\nside d 1 1 hit\nboundary d 1 5 hit\ntest 1 1\ntest 2 2 3\n" {
		t.Errorf("%s", report)
	}
}

// mixed has a duty of each verdict.
const mixed = `<model><input name="x" type="date"/><input name="n" type="number" scale="1"/>
<decision name="e" type="number"><need name="n"/><expression>n + 1</expression></decision>
<decision name="d" type="text"><need name="x"/><need name="n"/><table policy="U"><column name="x"/><column name="n"/><rule><cell>&lt; @"2000-01-01"</cell><cell>&lt; -1.5</cell><out>"a"</out></rule><rule><cell>-</cell><cell>(1..1)</cell><out>"b"</out></rule></table></decision>
<decision name="f" type="bool"><need name="e"/><table policy="U"><column name="e"/><rule><cell>999</cell><out>true</out></rule></table></decision></model>`

func TestReport(t *testing.T) {
	tests, report, at, e := tool.Run(mixed, api.Unlimited)
	if at != 0 || e != api.OK {
		t.Fatalf("%d, %d", at, e)
	}
	want := []string{
		"duties 10 hit 8 unsat 1 unknown 1 tests 5", "fires d 1 hit", "side d 1 1 hit", "side d 1 2 hit", "fires d 2 unsat", "side d 2 2 hit", "boundary d 1 @&quot;2000-01-01&quot; hit", "boundary d 2 -1.5 hit", "boundary d 2 1 hit", "fires f 1 unknown", "side f 1 1 hit",
	}
	lines := strings.Split(strings.TrimSuffix(report, "\n"), "\n")
	if len(lines) < len(want) || !slices.Equal(lines[1:len(want)], want[1:]) {
		t.Fatalf("%s", report)
	}
	cases := strings.Count(tests, "<case>")
	if lines[0] != strings.Replace(want[0], "tests 5", "tests "+strconv.Itoa(cases), 1) || len(lines) != len(want)+cases {
		t.Errorf("%s\n%s", report, tests)
	}
}

func TestWrongArguments(t *testing.T) {
	for i, c := range []struct {
		s      string
		budget int
		at     int
		e      api.Errno
	}{
		{first, -2, 0, api.ErrArg}, {first, math.MinInt, 0, api.ErrArg}, {"", -2, 0, api.ErrArg}, {"  ", 9, 2, api.ErrTag}, {"<model>&x;</model>", 9, 7, api.ErrName}, {strings.Replace(first, "F", "G", 1), 9, strings.Index(first, "<table"), api.ErrShape}, {strings.Replace(first, "&lt; 5", "&lt; true", 1), api.Unlimited, strings.Index(first, "<cell"), api.ErrText}, {strings.Replace(first, "<out>1", "<out>0.5", 1), 0, strings.Index(first, "<out"), api.ErrType}, {strings.Repeat(" ", api.MaxText+1), 9, 0, api.ErrLarge}, {"\xff", 9, 0, api.ErrChar},
	} {
		if tests, report, at, e := tool.Run(c.s, c.budget); tests != "" || report != "" || at != c.at || e != c.e {
			t.Errorf("%d: %q, %q, %d, %d", i, tests, report, at, e)
		}
	}
}

func TestReadWrittenAndReadAgain(t *testing.T) {
	for _, s := range []string{first, mixed, " <!-- x -->" + strings.ReplaceAll(mixed, "><", ">\n<") + "\n"} {
		m, _, e := model.Load(s)
		again, f := model.Text(m)
		if e != api.OK || f != api.OK {
			t.Fatalf("%d, %d", e, f)
		}
		tests, report, _, _ := tool.Run(s, api.Unlimited)
		if twin, other, _, _ := tool.Run(again, api.Unlimited); twin != tests || other != report || tests == "" {
			t.Errorf("%s, then %s", tests, twin)
		}
	}
}

func TestErrorsDoNotDependOnTheBudget(t *testing.T) {
	for _, s := range []string{"", "<model>&x;</model>", strings.Replace(first, "x", "if", 1), strings.Replace(mixed, "999", "true", 1)} {
		_, _, place, want := tool.Run(s, api.Unlimited)
		for _, budget := range []int{0, 1, 5, math.MaxInt} {
			if _, _, at, e := tool.Run(s, budget); at != place || e != want || e == api.OK {
				t.Errorf("%.30s, %d: %d, %d", s, budget, at, e)
			}
		}
	}
}

func TestTooManyTests(t *testing.T) {
	var b strings.Builder
	b.WriteString(`<model>`)
	for i := range 6 {
		b.WriteString(`<input name="a_name_that_is_as_long_as_can` + strconv.Itoa(i)[:1] + `" type="number"/>`)
	}
	for i := range 6 {
		b.WriteString(`<decision name="another_name_that_is_so_long` + strconv.Itoa(i) + `" type="number">`)
		for k := range 4 {
			b.WriteString(`<need name="a_name_that_is_as_long_as_can` + strconv.Itoa((i+k)%6) + `"/>`)
		}
		b.WriteString(`<table policy="F">`)
		for k := range 4 {
			b.WriteString(`<column name="a_name_that_is_as_long_as_can` + strconv.Itoa((i+k)%6) + `"/>`)
		}
		for r := range 6 {
			b.WriteString(`<rule>`)
			for k := range 4 {
				b.WriteString(`<cell>`)
				for n := range 8 {
					if n > 0 {
						b.WriteString(`,`)
					}
					b.WriteString(strconv.Itoa(n + 8*r + 100*k))
				}
				b.WriteString(`</cell>`)
			}
			b.WriteString(`<out>1</out></rule>`)
		}
		b.WriteString(`</table></decision>`)
	}
	b.WriteString(`</model>`)
	m, _, e := model.Load(b.String())
	if e != api.OK {
		t.Fatalf("%d", e)
	}
	if duties, _ := duty.All(m); len(duties) != 6*(6*5+4*48) {
		t.Fatalf("%d duties", len(duties))
	}
	if tests, report, at, e := tool.Run(b.String(), api.Unlimited); tests != "" || report != "" || at != 0 || e != api.ErrLarge {
		t.Errorf("%d, %d, %d, %d", len(tests), len(report), at, e)
	}
}

func TestSomeModels(t *testing.T) {
	size := sample.Size{Inputs: 4, Decisions: 4, Columns: 3, Rules: 4, Items: 3, Expressions: true}
	for number := range 40 {
		m := sample.Model(6000+number, size)
		s, e := model.Text(m)
		if e != api.OK {
			t.Fatalf("%d: %d", number, e)
		}
		tests, report, at, e := tool.Run(s, api.Unlimited)
		if at != 0 || e != api.OK {
			t.Fatalf("%d: %d, %d", number, at, e)
		}
		again, sameReport, _, _ := tool.Run(s, api.MaxBoxes)
		if again != tests || sameReport != report {
			t.Fatalf("%d: two calls differ", number)
		}
		cases, _, e := file.Read(m, tests)
		if e != api.OK {
			t.Fatalf("%d: %d", number, e)
		}
		checkReport(t, number, m, cases, report)
	}
}

// checkReport compares a report with tests that were read.
func checkReport(t *testing.T, number int, m api.Model, cases []api.Case, report string) {
	t.Helper()
	duties, _ := duty.All(m)
	_, r, _ := suite.Build(m, api.Unlimited)
	lines := strings.Split(report, "\n")
	if len(lines) != 1+len(duties)+len(cases)+1 || lines[len(lines)-1] != "" {
		t.Fatalf("%d: %s", number, report)
	}
	counts := map[string]int{}
	for i := range duties {
		words := strings.Fields(lines[1+i])
		verdict := words[len(words)-1]
		counts[verdict]++
		if want := [4]string{"", "hit", "unsat", "unknown"}[r.Verdicts[i]]; verdict != want {
			t.Fatalf("%d: %s is %s", number, lines[1+i], want)
		}
	}
	head := "duties " + strconv.Itoa(len(duties)) + " hit " + strconv.Itoa(counts["hit"]) + " unsat " + strconv.Itoa(counts["unsat"]) + " unknown " + strconv.Itoa(counts["unknown"]) + " tests " + strconv.Itoa(len(cases))
	if lines[0] != head {
		t.Fatalf("%d: %s, want %s", number, lines[0], head)
	}
	for i, c := range cases {
		want := "test " + strconv.Itoa(i+1)
		for n, d := range duties {
			if ok, _ := duty.Met(m, d, c.Inputs...); ok {
				want += " " + strconv.Itoa(n+1)
			}
		}
		if lines[1+len(duties)+i] != want {
			t.Fatalf("%d: %s, want %s", number, lines[1+len(duties)+i], want)
		}
		if twin, _ := oracle.Case(m, c.Inputs...); !slices.Equal(twin.Expected, c.Expected) {
			t.Fatalf("%d: %v", number, c)
		}
	}
}
