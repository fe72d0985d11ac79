package lex_test

import (
	"math"
	"slices"
	"strings"
	"testing"

	"soffit/api"
	"soffit/lex"
)

func sig(at int, s string) api.Token { return api.Token{Kind: api.TSign, At: at, Text: s} }
func nam(at int, s string) api.Token { return api.Token{Kind: api.TName, At: at, Text: s} }
func str(at int, s string) api.Token { return api.Token{Kind: api.TString, At: at, Text: s} }
func num(at, n, scale int) api.Token {
	return api.Token{Kind: api.TNumber, At: at, Dec: api.Dec{N: n, Scale: scale}}
}

func TestTokens(t *testing.T) {
	for _, c := range []struct {
		s    string
		want []api.Token
	}{
		{"", nil}, {" \t\r\n", nil},
		{"1", []api.Token{num(0, 1, 0)}}, {" 0.50 ", []api.Token{num(1, 5, 1)}}, {"12ab", []api.Token{num(0, 12, 0), nam(2, "ab")}},
		{"1..5", []api.Token{num(0, 1, 0), sig(1, ".."), num(3, 5, 0)}}, {"1.5..2.5", []api.Token{num(0, 15, 1), sig(3, ".."), num(5, 25, 1)}},
		{`"a\"b\\" "" "é<"`, []api.Token{str(0, `a"b\`), str(9, ""), str(12, "é<")}}, {"\"a\n\"", []api.Token{str(0, "a\n")}},
		{`@"2000-01-01"x`, []api.Token{{Kind: api.TDate, N: 730119}, nam(13, "x")}},
		{"azAZ09 z A Z a", []api.Token{nam(0, "azAZ09"), nam(7, "z"), nam(9, "A"), nam(11, "Z"), nam(13, "a")}}, {"if _a9 notx", []api.Token{nam(0, "if"), nam(3, "_a9"), nam(7, "notx")}},
		{"..!=<=>=+-*/=<>()[],", []api.Token{sig(0, ".."), sig(2, "!="), sig(4, "<="), sig(6, ">="), sig(8, "+"), sig(9, "-"), sig(10, "*"), sig(11, "/"), sig(12, "="), sig(13, "<"), sig(14, ">"), sig(15, "("), sig(16, ")"), sig(17, "["), sig(18, "]"), sig(19, ",")}},
		{"<==>", []api.Token{sig(0, "<="), sig(2, "="), sig(3, ">")}}, {"=>", []api.Token{sig(0, "="), sig(1, ">")}},
		{"--1", []api.Token{sig(0, "-"), sig(1, "-"), num(2, 1, 0)}}, {"0 0", []api.Token{num(0, 0, 0), num(2, 0, 0)}},
		{strings.Repeat("a", 32), []api.Token{nam(0, strings.Repeat("a", 32))}}, {`"` + strings.Repeat(`\"`, 256) + `"`, []api.Token{str(0, strings.Repeat(`"`, 256))}},
	} {
		if got, at, e := lex.Tokens(c.s); !slices.Equal(got, c.want) || at != 0 || e != api.OK {
			t.Errorf("%q: %v, %d, %d", c.s, got, at, e)
		}
	}
}

func TestWrongTokens(t *testing.T) {
	for _, c := range []struct {
		s  string
		at int
		e  api.Errno
	}{
		{" $", 1, api.ErrText}, {"a.b", 1, api.ErrText}, {"1.", 1, api.ErrText}, {"1.5.2", 3, api.ErrText}, {"1...2", 3, api.ErrText}, {"!", 0, api.ErrText}, {"! =", 0, api.ErrText},
		{"01", 0, api.ErrText}, {"x 00.5", 2, api.ErrText}, {"1000000000000", 0, api.ErrRange}, {" 0.0000001", 1, api.ErrRange}, {"é", 0, api.ErrText}, {"a\x00", 1, api.ErrText}, {"a\vb", 1, api.ErrText},
		{`"abc`, 0, api.ErrText}, {`1 "a\"`, 2, api.ErrText}, {`"a\n"`, 0, api.ErrText}, {`"\`, 0, api.ErrText}, {"\"\x01\"", 0, api.ErrText}, {"\"\xff\"", 0, api.ErrText}, {`"` + strings.Repeat("a", 257) + `"`, 0, api.ErrText},
		{"@", 0, api.ErrText}, {`@ "2000-01-01"`, 0, api.ErrText}, {`@"2000-1-1"`, 0, api.ErrText}, {`@"2023-02-29"`, 0, api.ErrText}, {`@"2000-01-01`, 0, api.ErrText}, {`@"0000-01-01"`, 0, api.ErrText}, {`@2000-01-01`, 0, api.ErrText},
		{"a " + strings.Repeat("b", 33), 2, api.ErrText}, {"{", 0, api.ErrText}, {"'a'", 0, api.ErrText}, {".", 0, api.ErrText},
		{strings.Repeat(" ", api.MaxText+1), 0, api.ErrLarge}, {strings.Repeat("$", api.MaxText+1), 0, api.ErrLarge},
	} {
		if got, at, e := lex.Tokens(c.s); got != nil || at != c.at || e != c.e {
			t.Errorf("%.40q: %v, %d, %d, want %d, %d", c.s, got, at, e, c.at, c.e)
		}
	}
	if _, _, e := lex.Tokens(strings.Repeat(" ", api.MaxText)); e != api.OK {
		t.Errorf("the greatest text: %d", e)
	}
}

func TestWord(t *testing.T) {
	for s, want := range map[string]bool{
		"a": true, "If": true, "nulls": true, "_": true, "": false, "1a": false, "a-b": false, strings.Repeat("a", 33): false, "é": false,
		"null": false, "true": false, "false": false, "and": false, "or": false, "not": false, "if": false, "then": false, "else": false,
	} {
		if lex.Word(s) != want {
			t.Errorf("Word(%q) is not %v", s, want)
		}
	}
}

func TestJoin(t *testing.T) {
	list := []api.Token{num(99, 15, 1), str(-1, `a"\`), {Kind: api.TDate, N: 0}, nam(0, "if"), sig(0, ".."), sig(0, "]"), num(0, 0, 0)}
	want := `1.5 "a\"\\" @"0001-01-01" if .. ] 0`
	if s, e := lex.Join(list...); s != want || e != api.OK {
		t.Errorf("%q, %d", s, e)
	}
	if s, e := lex.Join(); s != "" || e != api.OK {
		t.Errorf("none: %q, %d", s, e)
	}
	back, _, e := lex.Tokens(want)
	if s, f := lex.Join(back...); s != want || e != api.OK || f != api.OK {
		t.Errorf("back: %q, %d, %d", s, e, f)
	}
	fill := make([]api.Token, 254)
	for i := range fill {
		fill[i] = str(0, strings.Repeat("a", 254))
	}
	fill = append(fill, str(0, strings.Repeat("a", 256)))
	if s, e := lex.Join(fill...); len(s) != api.MaxText || e != api.OK {
		t.Errorf("the greatest text: %d, %d", len(s), e)
	}
	fill[0].Text += "a"
	if s, e := lex.Join(fill...); s != "" || e != api.ErrLarge {
		t.Errorf("one byte too many: %d, %d", len(s), e)
	}
	if s, e := lex.Join(append(fill, sig(0, "!"))...); s != "" || e != api.ErrForm {
		t.Errorf("too many bytes and an invalid token: %d, %d", len(s), e)
	}
}

func TestWrongJoin(t *testing.T) {
	for _, w := range []api.Token{
		{}, {Kind: 6, Text: "a"}, {Kind: math.MinInt}, num(0, 10, 1), num(0, -1, 0), num(0, api.MaxCoef+1, 0), {Kind: api.TNumber, N: 1}, {Kind: api.TNumber, Text: "1"},
		str(0, "\x01"), str(0, strings.Repeat("a", 257)), {Kind: api.TString, N: 1}, {Kind: api.TString, Dec: api.Dec{N: 1}},
		{Kind: api.TDate, N: -1}, {Kind: api.TDate, N: api.MaxDay + 1}, {Kind: api.TDate, Text: "x"}, {Kind: api.TDate, Dec: api.Dec{N: 1}},
		nam(0, ""), nam(0, "1a"), nam(0, strings.Repeat("a", 33)), {Kind: api.TName, Text: "a", N: 1}, {Kind: api.TName, Text: "a", Dec: api.Dec{Scale: 1}},
		sig(0, ""), sig(0, "!"), sig(0, "."), sig(0, "=="), sig(0, "((((("), sig(0, "a"), sig(0, "+-"), {Kind: api.TSign, Text: "+", N: 1}, {Kind: api.TSign, Text: "+", Dec: api.Dec{N: 1}},
	} {
		if s, e := lex.Join(num(0, 1, 0), w); s != "" || e != api.ErrForm {
			t.Errorf("%v: %q, %d", w, s, e)
		}
	}
}
