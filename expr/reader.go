package expr

import (
	"strings"

	"cotillion/api"
	"cotillion/lex"
)

// reader reads tokens from left to right.
type reader struct {
	tokens []api.Token
	at     int // the index of the next token
	open   int // how many brackets and prefix operators are open
}

// next returns the next token, which is the end where there are no tokens.
func (r *reader) next() api.Token {
	if r.at < 0 || r.at >= len(r.tokens) {
		return api.Token{Kind: api.TEnd}
	}
	return r.tokens[r.at]
}

// take goes behind the next token if it is the sign s.
func (r *reader) take(s string) api.Fault {
	t := r.next()
	if !isSign(t, s) {
		return unexpected(t)
	}
	r.at++
	return api.Fault{}
}

// takeName goes behind the next token if it is a name, and returns the name.
func (r *reader) takeName() (string, api.Fault) {
	t := r.next()
	if !isName(t) {
		return "", unexpected(t)
	}
	r.at++
	// The name itself would share the memory of the token.
	return strings.Clone(t.Text), api.Fault{}
}

// enter goes behind the next token, a bracket or a prefix operator, if one more can be open.
func (r *reader) enter() api.Fault {
	if r.open == api.MaxNest {
		return api.Fault{Code: api.ErrDeep, At: r.next().At}
	}
	r.open++
	r.at++
	return api.Fault{}
}

// operation reads an expression of at least level n.
func (r *reader) operation(n int) (api.Expr, api.Fault) {
	if n == prefix {
		return r.prefixed()
	}
	left, f := r.operation(n + 1)
	for f.Code == api.OK {
		t := r.next()
		kind := binary(t)
		if level(kind) != n {
			break
		}
		r.at++
		var right api.Expr
		right, f = r.operation(n + 1)
		left = api.Expr{Kind: kind, Kids: []api.Expr{left, right}, At: t.At}
		if n == comparison {
			// Without brackets, a comparison is not an operand of another one.
			break
		}
	}
	return left, f
}

// prefixed reads an expression that may start with prefix operators.
func (r *reader) prefixed() (api.Expr, api.Fault) {
	t := r.next()
	e := api.Expr{At: t.At}
	switch {
	case isSign(t, "-"):
		e.Kind = api.ENeg
	case isSign(t, "!"):
		e.Kind = api.ENot
	default:
		return r.single()
	}
	f := r.enter()
	if f.Code != api.OK {
		return api.Expr{}, f
	}
	kid, f := r.prefixed()
	r.open--
	e.Kids = []api.Expr{kid}
	return e, f
}

// single reads an expression that starts with no operator and goes no further than it has to.
func (r *reader) single() (api.Expr, api.Fault) {
	t := r.next()
	e := api.Expr{At: t.At}
	var f api.Fault
	switch {
	case isSign(t, "("):
		return r.bracketed()
	case isWord(t, "in"):
		e.Kind = api.EIn
		e.Name, f = r.inside()
	case isName(t):
		e.Kind = api.EVar
		e.Name, f = r.takeName()
	case isSign(t, "$"):
		e.Kind = api.EArg
		r.at++
	case t.Kind == api.TNum:
		e.Kind, e.N = api.ENum, t.N
		r.at++
	default:
		f = unexpected(t)
	}
	return e, f
}

// bracketed reads an expression in brackets.
func (r *reader) bracketed() (api.Expr, api.Fault) {
	f := r.enter()
	if f.Code != api.OK {
		return api.Expr{}, f
	}
	e, f := r.operation(or)
	if f.Code != api.OK {
		return api.Expr{}, f
	}
	r.open--
	return e, r.take(")")
}

// inside reads the word in and the name of a state in brackets, and returns the name.
func (r *reader) inside() (string, api.Fault) {
	r.at++
	f := r.take("(")
	if f.Code != api.OK {
		return "", f
	}
	name, f := r.takeName()
	if f.Code != api.OK {
		return "", f
	}
	return name, r.take(")")
}

// unexpected returns the error of a token that can't stand where it stands.
func unexpected(t api.Token) api.Fault {
	if t.Kind == api.TEnd {
		return api.Fault{Code: api.ErrEnd, At: t.At}
	}
	return api.Fault{Code: api.ErrToken, At: t.At}
}

// isSign reports whether t is the sign s.
func isSign(t api.Token, s string) bool {
	return t.Kind == api.TSign && t.Text == s
}

// isWord reports whether t is the keyword s.
func isWord(t api.Token, s string) bool {
	return t.Kind == api.TName && t.Text == s
}

// isName reports whether t is a name that is not a keyword.
func isName(t api.Token) bool {
	return t.Kind == api.TName && !lex.Reserved(t.Text)
}

// binary returns the kind of the expressions whose operator, between two operands, is t, or 0 if there is none.
func binary(t api.Token) int {
	for kind := api.EMul; kind <= api.EOr; kind++ {
		if isSign(t, sign(kind)) {
			return kind
		}
	}
	return 0
}
