package act

import (
	"cotillion/api"
	"cotillion/cursor"
	"cotillion/expr"
)

// reader reads blocks from left to right.
type reader struct {
	cursor.Cursor
	open int // how many blocks are open
}

// block reads a block.
func (r *reader) block() []api.Act {
	if r.open == api.MaxBlock && r.Has("{") {
		r.Fail(api.ErrDeep)
	}
	r.Take("{")
	r.open++
	var l []api.Act
	for r.OK() && !r.Skip("}") {
		l = append(l, r.act())
	}
	r.open--
	return l
}

// act reads an action.
func (r *reader) act() api.Act {
	a := api.Act{At: r.Next().At}
	switch {
	case r.Skip("if"):
		a.Kind = api.AIf
		a.X = r.bracketed()
		a.Then = r.block()
		if r.Skip("else") {
			a.Else = r.block()
		}
	case r.Skip("loop"):
		a.Kind = api.ALoop
		a.N = int(r.Number())
		a.Then = r.block()
	default:
		r.plain(&a)
		r.Take(";")
	}
	return a
}

// plain reads an action that has no blocks, but not its semicolon.
func (r *reader) plain(a *api.Act) {
	switch {
	case r.Skip("raise"):
		a.Kind = api.ARaise
		a.Event = r.Name()
		a.X = r.optional()
	case r.Skip("send"):
		a.Kind = api.ASend
		a.Name = r.Name()
		a.Event = r.Name()
		a.X = r.optional()
	case r.Skip("arm"):
		a.Kind = api.AArm
		a.Name = r.Name()
		a.X = r.bracketed()
	case r.Skip("cancel"):
		a.Kind = api.ACancel
		a.Name = r.Name()
	default:
		a.Kind = api.ASet
		a.Name = r.Name()
		r.Take("=")
		a.X = r.expression()
	}
}

// optional reads an expression in brackets if there is a bracket.
func (r *reader) optional() []api.Expr {
	if !r.Has("(") {
		return nil
	}
	return r.bracketed()
}

// bracketed reads an expression in brackets.
func (r *reader) bracketed() []api.Expr {
	r.Take("(")
	x := r.expression()
	r.Take(")")
	return x
}

// expression reads an expression.
func (r *reader) expression() []api.Expr {
	e, next, f := expr.Parse(r.Place())
	r.Follow(next, f)
	return []api.Expr{e}
}
