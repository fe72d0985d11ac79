package logic_test

import (
	"testing"

	"soffit/api"
	"soffit/logic"
)

func yes() api.Value { return api.Value{Kind: api.Bool, N: 1} }
func no() api.Value  { return api.Value{Kind: api.Bool} }

// unknown are values that are neither true nor false.
func unknown() []api.Value {
	return []api.Value{
		{}, {N: 1}, {Kind: api.Number}, {Kind: api.Number, N: 1}, {Kind: api.Text, Text: "true"}, {Kind: api.Date}, {Kind: api.Bool, N: 2}, {Kind: api.Bool, N: -1},
		{Kind: api.Bool, N: 1, Text: "x"}, {Kind: api.Bool, Dec: api.Dec{N: 1}}, {Kind: 9, N: 1},
	}
}

func TestTruth(t *testing.T) {
	if logic.Truth(true) != yes() || logic.Truth(false) != no() {
		t.Error("Truth")
	}
	if !logic.Is(yes()) || logic.Is(no()) {
		t.Error("Is")
	}
	for _, u := range unknown() {
		if logic.Is(u) {
			t.Errorf("%v is true", u)
		}
	}
}

func TestNot(t *testing.T) {
	if logic.Not(yes()) != no() || logic.Not(no()) != yes() {
		t.Error("Not")
	}
	for _, u := range unknown() {
		if logic.Not(u) != (api.Value{}) {
			t.Errorf("Not(%v): %v", u, logic.Not(u))
		}
	}
}

func TestAndOr(t *testing.T) {
	null := api.Value{}
	for _, c := range []struct {
		list    []api.Value
		and, or api.Value
	}{
		{nil, yes(), no()}, {[]api.Value{yes()}, yes(), yes()}, {[]api.Value{no()}, no(), no()},
		{[]api.Value{yes(), yes(), yes()}, yes(), yes()}, {[]api.Value{yes(), no()}, no(), yes()}, {[]api.Value{no(), no()}, no(), no()},
	} {
		if logic.And(c.list...) != c.and || logic.Or(c.list...) != c.or {
			t.Errorf("%v: %v, %v", c.list, logic.And(c.list...), logic.Or(c.list...))
		}
	}
	for _, u := range unknown() {
		for _, c := range []struct {
			list    []api.Value
			and, or api.Value
		}{
			{[]api.Value{u}, null, null}, {[]api.Value{u, yes()}, null, yes()}, {[]api.Value{yes(), u}, null, yes()}, {[]api.Value{u, no()}, no(), null},
			{[]api.Value{no(), u}, no(), null}, {[]api.Value{u, yes(), no()}, no(), yes()}, {[]api.Value{u, u}, null, null},
		} {
			if logic.And(c.list...) != c.and || logic.Or(c.list...) != c.or {
				t.Errorf("%v: %v, %v", c.list, logic.And(c.list...), logic.Or(c.list...))
			}
		}
	}
}
