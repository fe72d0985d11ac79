// Package scan reads the tokens of a text one after another: it is the reader
// of expressions and of cells.
package scan

import (
	"soffit/api"
	"soffit/lex"
)

// Reader reads tokens; wrong and e are the first position that is wrong and
// its error.
type Reader struct {
	tokens []api.Token
	next   int
	end    int
	wrong  int
	e      api.Errno
}

// New returns a reader of the tokens of s; if they can't be had, it has failed.
func New(s string) Reader {
	tokens, at, e := lex.Tokens(s)
	return Reader{tokens: tokens, end: len(s), wrong: at, e: e}
}

// Failed returns the error, if there is one, and its position.
func (r *Reader) Failed() (int, api.Errno) { return r.wrong, r.e }

// Fail notes an error at the next token, unless there was one before.
func (r *Reader) Fail(e api.Errno) bool { return r.FailAt(r.Place(), e) }

// FailAt notes an error at a position, unless there was one before.
func (r *Reader) FailAt(at int, e api.Errno) bool {
	if r.e == api.OK {
		r.wrong, r.e = at, e
	}
	return false
}

// Done reports whether no token is left.
func (r *Reader) Done() bool { return r.next == len(r.tokens) }

// Place returns the position of the next token, or the end of the text.
func (r *Reader) Place() int {
	if r.Done() {
		return r.end
	}
	return r.tokens[r.next].At
}

// Peek returns the next token; at the end a token of no kind.
func (r *Reader) Peek() api.Token {
	if r.Done() {
		return api.Token{}
	}
	return r.tokens[r.next]
}

// Skip passes over the next token.
func (r *Reader) Skip() { r.next++ }

// Sign passes over a sign, if it is next.
func (r *Reader) Sign(s string) bool { return r.take(api.TSign, s) }

// Word passes over a name or reserved word, if it is next.
func (r *Reader) Word(s string) bool { return r.take(api.TName, s) }

// take passes over a token of a kind and a text, if it is next.
func (r *Reader) take(kind int, s string) bool {
	t := r.Peek()
	if t.Kind != kind || t.Text != s {
		return false
	}
	r.next++
	return true
}

// Value passes over a value, if it is next.
func (r *Reader) Value() (api.Value, bool) {
	v, ok := valueOf(r.Peek())
	if ok {
		r.next++
	}
	return v, ok
}

// valueOf returns the value that a token is.
func valueOf(t api.Token) (api.Value, bool) {
	switch t.Kind {
	case api.TNumber:
		return api.Value{Kind: api.Number, Dec: t.Dec}, true
	case api.TString:
		return api.Value{Kind: api.Text, Text: t.Text}, true
	case api.TDate:
		return api.Value{Kind: api.Date, N: t.N}, true
	case api.TName:
		switch t.Text {
		case "null":
			return api.Value{}, true
		case "true":
			return api.Value{Kind: api.Bool, N: 1}, true
		case "false":
			return api.Value{Kind: api.Bool}, true
		}
	}
	return api.Value{}, false
}
