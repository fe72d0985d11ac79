package unary

import (
	"strings"

	"soffit/api"
	"soffit/deci"
	"soffit/scan"
)

// cell reads the tests of a cell.
type cell struct {
	scan.Reader
}

// Parse returns the tests that s is, or the first position that is wrong.
func Parse(s string) (api.Tests, int, api.Errno) {
	if strings.Trim(s, "\t\n\r ") == "-" {
		return api.Tests{Any: true}, 0, api.OK
	}
	c := &cell{scan.New(s)}
	if at, e := c.Failed(); e != api.OK {
		return api.Tests{}, at, e
	}
	t := c.whole()
	if at, e := c.Failed(); e != api.OK {
		return api.Tests{}, at, e
	}
	return t, 0, api.OK
}

// whole reads all tests, up to the end.
func (c *cell) whole() api.Tests {
	t := api.Tests{Not: c.Word("not")}
	if t.Not && !c.Sign("(") {
		c.Fail(api.ErrText)
		return t
	}
	for {
		one, ok := c.test()
		if !ok {
			return t
		}
		t.List = append(t.List, one)
		if len(t.List) == api.MaxItems && c.Peek().Text == "," && c.Peek().Kind == api.TSign {
			c.Fail(api.ErrLarge)
			return t
		}
		if !c.Sign(",") {
			break
		}
	}
	if t.Not && !c.Sign(")") || !c.Done() {
		c.Fail(api.ErrText)
	}
	return t
}

// test reads one test.
func (c *cell) test() (api.Test, bool) {
	for kind := api.IsLess; kind <= api.IsAtLeast; kind++ {
		if c.Sign(signOf(kind)) {
			low, ok := c.value(ordered)
			return api.Test{Kind: kind, Low: low}, ok
		}
	}
	if c.Sign("[") {
		return c.interval(false)
	}
	if c.Sign("(") || c.Sign("]") {
		return c.interval(true)
	}
	low, ok := c.value(func(int) bool { return true })
	return api.Test{Kind: api.IsValue, Low: low}, ok
}

// interval reads an interval behind its first sign.
func (c *cell) interval(open bool) (api.Test, bool) {
	t := api.Test{Kind: api.IsBetween, OpenLow: open}
	var ok bool
	t.Low, ok = c.value(ordered)
	if !ok {
		return t, false
	}
	if !c.Sign("..") {
		return t, c.Fail(api.ErrText)
	}
	t.High, ok = c.value(func(kind int) bool { return kind == t.Low.Kind })
	if !ok {
		return t, false
	}
	if c.Sign("]") {
		return t, true
	}
	t.OpenHigh = true
	return t, c.Sign(")") || c.Sign("[") || c.Fail(api.ErrText)
}

// value reads a value of a kind that may stand here.
func (c *cell) value(may func(kind int) bool) (api.Value, bool) {
	start := c.Place()
	minus := c.Sign("-")
	if minus && c.Peek().Kind != api.TNumber {
		return api.Value{}, c.Fail(api.ErrText)
	}
	v, ok := c.Value()
	if !ok {
		return api.Value{}, c.Fail(api.ErrText)
	}
	if !may(v.Kind) {
		return api.Value{}, c.FailAt(start, api.ErrText)
	}
	if minus {
		v.Dec, _ = deci.Neg(v.Dec) // a token's number is sound
	}
	return v, true
}
