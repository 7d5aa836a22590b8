package expr

import (
	"cotillion/api"
	"cotillion/cursor"
)

// reader reads expressions from left to right.
type reader struct {
	cursor.Cursor
	open int // how many brackets and prefix operators are open
}

// operation reads an expression of at least level n.
func (r *reader) operation(n int) api.Expr {
	if n == prefix {
		return r.prefixed()
	}
	left := r.operation(n + 1)
	for {
		t := r.Next()
		kind := binary(t)
		if level(kind) != n {
			return left
		}
		r.Take(t.Text)
		right := r.operation(n + 1)
		left = api.Expr{Kind: kind, Kids: []api.Expr{left, right}, At: t.At}
		if n == comparison {
			// Without brackets, a comparison is not an operand of another one.
			return left
		}
	}
}

// prefixed reads an expression that may start with prefix operators.
func (r *reader) prefixed() api.Expr {
	t := r.Next()
	e := api.Expr{At: t.At}
	switch t.Text {
	case "-":
		e.Kind = api.ENeg
	case "!":
		e.Kind = api.ENot
	default:
		return r.single()
	}
	r.enter(t.Text)
	e.Kids = []api.Expr{r.prefixed()}
	r.open--
	return e
}

// single reads an expression that starts with no operator and goes no further than it has to.
func (r *reader) single() api.Expr {
	t := r.Next()
	e := api.Expr{At: t.At}
	switch {
	case r.Has("("):
		return r.bracketed()
	case r.Skip("in"):
		e.Kind = api.EIn
		r.Take("(")
		e.Name = r.Name()
		r.Take(")")
	case r.Skip("$"):
		e.Kind = api.EArg
	case t.Kind == api.TNum:
		e.Kind = api.ENum
		e.N = r.Number()
	default:
		e.Kind = api.EVar
		e.Name = r.Name()
	}
	return e
}

// bracketed reads an expression in brackets.
func (r *reader) bracketed() api.Expr {
	r.enter("(")
	e := r.operation(or)
	r.Take(")")
	r.open--
	return e
}

// enter goes behind s, a bracket or a prefix operator, if one more can be open.
func (r *reader) enter(s string) {
	if r.open == api.MaxNest {
		r.Fail(api.ErrDeep)
	}
	r.Take(s)
	r.open++
}

// binary returns the kind of the expressions whose operator, between two operands, is t, or 0 if there is none.
func binary(t api.Token) int {
	for kind := api.EMul; kind <= api.EOr; kind++ {
		if t.Text == sign(kind) {
			return kind
		}
	}
	return 0
}
