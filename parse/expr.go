package parse

import (
	"strings"

	"tripwire/api"
	"tripwire/ast"
	"tripwire/lex"
)

func (r *reader) or() ast.Expr { return r.chain(r.and, "OR") }

func (r *reader) and() ast.Expr { return r.chain(r.not, "AND") }

func (r *reader) sum() ast.Expr { return r.chain(r.term, "+", "-") }

func (r *reader) term() ast.Expr { return r.chain(r.unary, "*") }

// chain reads by a rule once, and once more behind each of the words and signs that stand between: what stands at the
// left of one stands deeper.
func (r *reader) chain(rule func() ast.Expr, between ...string) ast.Expr {
	e := rule()
	for op := r.perhaps(between...); op != ""; op = r.perhaps(between...) {
		e = of(strings.ToLower(op), e, rule())
	}
	return e
}

func of(op string, kids ...ast.Expr) ast.Expr { return ast.Expr{Op: op, Kids: kids} }

func (r *reader) not() ast.Expr {
	if r.has("NOT") {
		return of("not", r.not())
	}
	return r.cmp()
}

func (r *reader) cmp() ast.Expr {
	e := r.sum()
	switch op := r.perhaps("=", "<>", "<", "<=", ">", ">=", "IS"); op {
	case "":
		return e
	case "IS":
		return r.null(e)
	default:
		return of(op, e, r.sum())
	}
}

// null is what IS and what stands behind it make of an expression.
func (r *reader) null(e ast.Expr) ast.Expr {
	e = of("null", e)
	if r.need("NOT", "NULL") == "NOT" {
		r.need("NULL")
		e = of("not", e)
	}
	return e
}

func (r *reader) unary() ast.Expr {
	if r.has("-") {
		return of("neg", r.unary())
	}
	return r.atom()
}

func (r *reader) atom() ast.Expr {
	switch {
	case r.at(lex.Number):
		return constant(api.Value{Kind: api.Int, N: r.take(lex.Number).N})
	case r.at(lex.Str):
		return constant(api.Value{Kind: api.Text, S: r.take(lex.Str).S})
	case r.at(lex.Name):
		return r.column()
	}
	switch r.need("NULL", "TRUE", "FALSE", "(") {
	case "NULL":
		return constant(api.Value{})
	case "TRUE":
		return constant(api.Value{Kind: api.Bool, N: 1})
	case "FALSE":
		return constant(api.Value{Kind: api.Bool})
	}
	e := r.or()
	r.need(")")
	return e
}

func constant(v api.Value) ast.Expr { return ast.Expr{Op: "value", V: v} }

func (r *reader) column() ast.Expr {
	e := ast.Expr{Op: "column", Col: r.name()}
	if r.has(".") {
		e.Var, e.Col = e.Col, r.name()
	}
	return e
}
