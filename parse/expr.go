package parse

import (
	"baldric/api"
	"baldric/calc"
)

// exprReader reads an expression, whose names are these variables'.
type exprReader struct {
	*reader
	vars rows
}

// whole is an expression that is no part of another one.
func (x exprReader) whole() api.Expr { return x.expr(0, 1) }

// expr is an expression that stands so deep, as far as its operations are at least so strong.
func (x exprReader) expr(least, deep int) api.Expr {
	e := x.unary(deep)
	for {
		op, is := x.sign()
		strength := calc.Strength(op)
		if !is || strength < least {
			return e
		}
		x.step()
		// What stands behind ends ahead of an operation that is alike, since the first of these goes first.
		e = part(api.EBin, op, e, x.expr(strength+1, deep+1))
	}
}

// sign is the operation whose sign is next, if one is.
func (x exprReader) sign() (int, bool) {
	t := x.here()
	if !fixed(t) {
		return 0, false
	}
	return calc.Op(t.Text)
}

func (x exprReader) unary(deep int) api.Expr {
	// What is too deep is refused ahead of looking at it: a part would have to be here, whatever is.
	if deep > api.MaxDeep {
		x.fail(x.here().At, api.ErrFull)
	}
	switch {
	case x.took("-"):
		return part(api.ENeg, 0, x.unary(deep+1))
	case x.took("!"):
		return part(api.ENot, 0, x.unary(deep+1))
	case x.took("("):
		e := x.expr(0, deep+1)
		x.must(")")
		return e
	case x.took("if"):
		return x.choice(deep + 1)
	case x.here().Kind == api.TokNumber:
		return part(api.ENum, x.number())
	}
	return part(api.EVar, x.known(x.vars))
}

// choice is what stands behind if; its parts stand so deep.
func (x exprReader) choice(deep int) api.Expr {
	x.must("(")
	which := x.expr(0, deep)
	x.must(",")
	then := x.expr(0, deep)
	x.must(",")
	otherwise := x.expr(0, deep)
	x.must(")")
	return part(api.EIf, 0, which, then, otherwise)
}

// part is an expression of these kids, which no other list shares.
func part(kind, num int, kids ...api.Expr) api.Expr {
	return api.Expr{Kind: kind, Num: num, Kids: kids}
}
