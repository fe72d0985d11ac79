package graph_test

import (
	"math"
	"slices"
	"strconv"
	"strings"
	"testing"

	"soffit/api"
	"soffit/graph"
)

// parts returns names and needs from a text as "a:b,c d:".
func parts(s string) ([]string, [][]string) {
	var names []string
	var needs [][]string
	for _, f := range strings.Fields(s) {
		name, list, _ := strings.Cut(f, ":")
		names = append(names, name)
		needs = append(needs, strings.FieldsFunc(list, func(r rune) bool { return r == ',' }))
	}
	return names, needs
}

func TestOrder(t *testing.T) {
	for s, want := range map[string][]int{
		"": nil, "a:": {0}, "a: b: c:": {0, 1, 2}, "a:b b:c c:": {2, 1, 0}, "a:c b: c: d:a": {1, 2, 0, 3}, "a:d b: c: d:": {1, 2, 3, 0}, "a:b,b,b b:": {1, 0}, "d:a,b a: b:a c:d": {1, 2, 0, 3}, "x:y y: z:x,y": {1, 0, 2},
	} {
		names, needs := parts(s)
		if got, at, e := graph.Order(names, needs); !slices.Equal(got, want) || at != 0 || e != api.OK {
			t.Errorf("%s: %v, %d, %d", s, got, at, e)
		}
	}
	for _, c := range []struct {
		s  string
		at int
		e  api.Errno
	}{
		{"a: b: a:", 2, api.ErrName}, {"a:zz b: b: a:", 2, api.ErrName}, {"a: b:zz c:yy", 1, api.ErrRef}, {"a:a b:zz", 1, api.ErrRef}, {"a:a", 0, api.ErrCycle}, {"a: b:c c:b", 1, api.ErrCycle}, {"a:c b:b c:", 1, api.ErrCycle}, {"a: b:d c:a d:e e:d", 1, api.ErrCycle}, {"a:b b:c c:b d:", 0, api.ErrCycle},
	} {
		names, needs := parts(c.s)
		if got, at, e := graph.Order(names, needs); got != nil || at != c.at || e != c.e {
			t.Errorf("%s: %v, %d, %d", c.s, got, at, e)
		}
	}
}

func TestCounts(t *testing.T) {
	names := make([]string, api.MaxNodes+1)
	needs := make([][]string, api.MaxNodes+1)
	for i := range names {
		names[i] = strconv.Itoa(i)
		if i+1 < api.MaxNodes {
			needs[i] = []string{strconv.Itoa(i + 1)}
		}
	}
	last := api.MaxNodes
	if got, _, e := graph.Order(names[:last], needs[:last]); e != api.OK || len(got) != last || got[0] != last-1 || got[last-1] != 0 {
		t.Errorf("the most items: %d, %d", len(got), e)
	}
	for _, c := range []struct {
		names []string
		needs [][]string
	}{{names, needs}, {names[:2], needs[:1]}, {names[:1], needs[:2]}, {[]string{"a", "a"}, nil}, {nil, make([][]string, 1)}} {
		if got, at, e := graph.Order(c.names, c.needs); got != nil || at != 0 || e != api.ErrArg {
			t.Errorf("Order: %v, %d, %d", got, at, e)
		}
		if got, e := graph.Above(c.names, c.needs, 0); got != nil || e != api.ErrArg {
			t.Errorf("Above: %v, %d", got, e)
		}
	}
}

func TestAbove(t *testing.T) {
	for _, c := range []struct {
		s    string
		n    int
		want []int
		e    api.Errno
	}{
		{"a:", 0, nil, 0}, {"a:b b:c c: d:", 0, []int{1, 2}, 0}, {"a:b b:c c: d:", 3, nil, 0}, {"c: b:c a:b,c,b", 2, []int{0, 1}, 0}, {"a:a", 0, []int{0}, 0}, {"a:b b:a c:", 0, []int{0, 1}, 0}, {"a:b b:c c:c", 0, []int{1, 2}, 0}, {"d:a,b a: b:a c:d", 3, []int{0, 1, 2}, 0},
		{"a:b b:", -1, nil, api.ErrArg}, {"a:b b:", 2, nil, api.ErrArg}, {"a:b b:", math.MaxInt, nil, api.ErrArg}, {"", 0, nil, api.ErrArg}, {"a: a:", 0, nil, api.ErrName}, {"a: b:z", 0, nil, api.ErrRef}, {"a: a:", 7, nil, api.ErrName}, {"a: b:z", -1, nil, api.ErrRef},
	} {
		names, needs := parts(c.s)
		if got, e := graph.Above(names, needs, c.n); !slices.Equal(got, c.want) || e != c.e {
			t.Errorf("%s, %d: %v, %d", c.s, c.n, got, e)
		}
	}
}
