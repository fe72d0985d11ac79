package expr

import (
	"slices"

	"soffit/api"
	"soffit/lex"
	"soffit/scan"
)

// How strongly operators bind, from the weakest on.
const (
	orStrength = iota + 1
	andStrength
	compareStrength
	sumStrength
	productStrength
	signStrength
)

// operator is an operator with two parts, and how it is written.
type operator struct {
	op   int
	sign string
}

// operators returns the operators of a strength.
func operators(strength int) []operator {
	switch strength {
	case orStrength:
		return []operator{{api.OpOr, "or"}}
	case andStrength:
		return []operator{{api.OpAnd, "and"}}
	case compareStrength:
		return []operator{
			{api.OpEq, "="}, {api.OpNe, "!="}, {api.OpLt, "<"}, {api.OpLe, "<="}, {api.OpGt, ">"}, {api.OpGe, ">="},
		}
	case sumStrength:
		return []operator{{api.OpAdd, "+"}, {api.OpSub, "-"}}
	case productStrength:
		return []operator{{api.OpMul, "*"}, {api.OpDiv, "/"}}
	}
	return nil
}

// parser parses an expression: parts are those that are complete, depth is
// that of what is being read.
type parser struct {
	reader scan.Reader
	parts  int
	depth  int
}

// Parse returns the expression that s is, or the first position that is wrong.
func Parse(s string) (api.Expr, int, api.Errno) {
	p := &parser{reader: scan.New(s)}
	if at, e := p.reader.Failed(); e != api.OK {
		return api.Expr{}, at, e
	}
	x, ok := p.inner()
	if ok && !p.reader.Done() {
		p.reader.Fail(api.ErrText)
	}
	if at, e := p.reader.Failed(); e != api.OK {
		return api.Expr{}, at, e
	}
	if !Sound(x) {
		return api.Expr{}, 0, api.ErrDeep
	}
	return x, 0, api.OK
}

// fail notes an error at the next token.
func (p *parser) fail(e api.Errno) (api.Expr, bool) { return api.Expr{}, p.reader.Fail(e) }

// part returns an operator with its parts as an expression.
func (p *parser) part(op int, kids ...api.Expr) (api.Expr, bool) {
	return p.complete(api.Expr{Op: op, Kids: slices.Clone(kids)})
}

// complete counts an expression that is complete.
func (p *parser) complete(x api.Expr) (api.Expr, bool) {
	p.parts++
	if p.parts > api.MaxNodes {
		return p.fail(api.ErrLarge)
	}
	return x, true
}

// inner reads an expression that is one deeper than what it stands in.
func (p *parser) inner() (api.Expr, bool) {
	p.depth++
	if p.depth > api.MaxDepth {
		return p.fail(api.ErrDeep)
	}
	x, ok := p.expression()
	p.depth--
	return x, ok
}

// expression reads an expression.
func (p *parser) expression() (api.Expr, bool) {
	if !p.reader.Word("if") {
		return p.chain(orStrength)
	}
	var kids [3]api.Expr
	for i, word := range [...]string{"then", "else", ""} {
		kid, ok := p.expression()
		if !ok {
			return api.Expr{}, false
		}
		if word != "" && !p.reader.Word(word) {
			return p.fail(api.ErrText)
		}
		kids[i] = kid
	}
	return p.part(api.OpIf, kids[:]...)
}

// chain reads what operators of a strength join.
func (p *parser) chain(strength int) (api.Expr, bool) {
	if strength == signStrength {
		return p.signed()
	}
	left, ok := p.chain(strength + 1)
	if !ok {
		return api.Expr{}, false
	}
	list := operators(strength)
	for {
		i := slices.IndexFunc(list, p.takes)
		if i < 0 {
			return left, true
		}
		right, ok := p.chain(strength + 1)
		if !ok {
			return api.Expr{}, false
		}
		left, ok = p.part(list[i].op, left, right)
		if !ok || strength == compareStrength { // a comparison isn't joined further
			return left, ok
		}
	}
}

// takes passes over an operator, if it is next.
func (p *parser) takes(o operator) bool {
	next := p.reader.Sign
	if o.op == api.OpAnd || o.op == api.OpOr {
		next = p.reader.Word
	}
	return next(o.sign)
}

// signed reads an operand with any number of signs before it.
func (p *parser) signed() (api.Expr, bool) {
	signs := 0
	for p.reader.Sign("-") {
		signs++
	}
	x, ok := p.operand()
	for range signs {
		if ok {
			x, ok = p.part(api.OpNeg, x)
		}
	}
	return x, ok
}

// operand reads what has no operator outside parentheses.
func (p *parser) operand() (api.Expr, bool) {
	if p.reader.Sign("(") {
		return p.enclosed()
	}
	if p.reader.Word("not") {
		if !p.reader.Sign("(") {
			return p.fail(api.ErrText)
		}
		x, ok := p.enclosed()
		if !ok {
			return api.Expr{}, false
		}
		return p.part(api.OpNot, x)
	}
	if v, ok := p.reader.Value(); ok {
		return p.complete(api.Expr{Op: api.OpValue, Value: v})
	}
	if t := p.reader.Peek(); t.Kind == api.TName && lex.Word(t.Text) {
		p.reader.Skip()
		return p.complete(api.Expr{Op: api.OpName, Name: t.Text})
	}
	return p.fail(api.ErrText)
}

// enclosed reads an expression behind (, and the ).
func (p *parser) enclosed() (api.Expr, bool) {
	x, ok := p.inner()
	if ok && !p.reader.Sign(")") {
		return p.fail(api.ErrText)
	}
	return x, ok
}
