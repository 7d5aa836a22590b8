// Package cursor goes through the tokens of a source. It is no layer: the layers that read a source share it.
package cursor

import (
	"strings"

	"cotillion/api"
	"cotillion/lex"
)

// Cursor is a place in a list of tokens, which goes from left to right. Behind the first error there are no more
// tokens for it, so that a reader has to ask for an error only where it would go on without end.
type Cursor struct {
	tokens []api.Token
	at     int // the index of the next token
	fault  api.Fault
}

// New returns a Cursor at l[at].
func New(l []api.Token, at int) Cursor {
	return Cursor{tokens: l, at: at}
}

// Result returns v and the index of the token at c, or just the error of c.
func Result[T any](c Cursor, v T) (T, int, api.Fault) {
	if !c.OK() {
		var none T
		return none, 0, c.fault
	}
	return v, c.at, api.Fault{}
}

// OK reports whether there was no error.
func (c *Cursor) OK() bool {
	return c.fault.Code == api.OK
}

// Next returns the next token, which is the end where there are no tokens.
func (c *Cursor) Next() api.Token {
	if c.at < 0 || c.at >= len(c.tokens) {
		return api.Token{Kind: api.TEnd}
	}
	return c.tokens[c.at]
}

// Has reports whether the next token is the sign or keyword s.
func (c *Cursor) Has(s string) bool {
	return c.Next().Text == s
}

// Skip goes behind the next token if it is the sign or keyword s, and reports whether it was.
func (c *Cursor) Skip(s string) bool {
	if !c.Has(s) {
		return false
	}
	c.at++
	return true
}

// Take goes behind the next token, which has to be the sign or keyword s.
func (c *Cursor) Take(s string) {
	if !c.Skip(s) {
		c.refuse()
	}
}

// Name goes behind the next token, which has to be a name and no keyword, and returns it.
func (c *Cursor) Name() string {
	t := c.Next()
	if t.Kind != api.TName || lex.Reserved(t.Text) {
		c.refuse()
		return ""
	}
	c.at++
	// The text itself would share the memory of the token.
	return strings.Clone(t.Text)
}

// Number goes behind the next token, which has to be a number, and returns it.
func (c *Cursor) Number() int64 {
	t := c.Next()
	if t.Kind != api.TNum {
		c.refuse()
		return 0
	}
	c.at++
	return t.N
}

// Fail is the error code at the next token.
func (c *Cursor) Fail(code api.Errno) {
	c.stop(api.Fault{Code: code, At: c.Next().At})
}

// Place returns the tokens and the index of the next one, for a call that reads a part of them.
func (c *Cursor) Place() ([]api.Token, int) {
	return c.tokens, c.at
}

// Follow goes to where a call that read a part of the tokens ended, or takes over its error.
func (c *Cursor) Follow(at int, f api.Fault) {
	c.at = at
	if f.Code != api.OK {
		c.stop(f)
	}
}

// refuse is the error of the next token if it can't stand where it stands.
func (c *Cursor) refuse() {
	if c.Next().Kind == api.TEnd {
		c.Fail(api.ErrEnd)
		return
	}
	c.Fail(api.ErrToken)
}

// stop is the error f, unless there was one before.
func (c *Cursor) stop(f api.Fault) {
	if c.OK() {
		c.fault = f
	}
	c.tokens = nil
}
