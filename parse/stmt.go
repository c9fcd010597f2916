package parse

import (
	"tripwire/api"
	"tripwire/ast"
	"tripwire/lex"
)

func (r *reader) stmt() ast.Stmt {
	switch first := r.need("BEGIN", "COMMIT", "ABORT", "SAVEPOINT", "ROLLBACK", "CREATE", "DROP", "SELECT", "INSERT", "UPDATE", "DELETE"); first {
	case "BEGIN":
		return ast.Stmt{Kind: ast.Begin}
	case "COMMIT":
		return ast.Stmt{Kind: ast.Commit}
	case "ABORT":
		return ast.Stmt{Kind: ast.Abort}
	case "SAVEPOINT":
		return ast.Stmt{Kind: ast.Save, Name: r.name()}
	case "ROLLBACK":
		r.need("TO")
		return ast.Stmt{Kind: ast.Back, Name: r.name()}
	case "CREATE":
		return r.create()
	case "DROP":
		return r.drop()
	case "SELECT":
		return r.items(ast.Stmt{Kind: ast.Select})
	default:
		return r.actBehind(first)
	}
}

// create is what stands behind CREATE.
func (r *reader) create() ast.Stmt {
	switch r.need("TABLE", "INDEX", "RULE") {
	case "TABLE":
		return r.table()
	case "INDEX":
		return r.index()
	default:
		return r.rule()
	}
}

func (r *reader) table() ast.Stmt {
	s := ast.Stmt{Kind: ast.Table, Name: r.name()}
	s.Cols = inside(r, r.col)
	return s
}

// col counts on the words of types standing in the order of their numbers.
func (r *reader) col() api.Column {
	c := api.Column{Name: r.name()}
	c.Type = r.number("BOOL", "INT", "TEXT")
	if c.NotNull = r.has("NOT"); c.NotNull {
		r.need("NULL")
	}
	c.Unique = r.has("UNIQUE")
	return c
}

func (r *reader) index() ast.Stmt {
	s := ast.Stmt{Kind: ast.Index, Name: r.name()}
	r.need("ON")
	s.Table = r.name()
	r.need("(")
	s.Col = r.name()
	r.need(")")
	return s
}

func (r *reader) rule() ast.Stmt {
	s := ast.Stmt{Kind: ast.Rule, Name: r.name()}
	r.need("PRIORITY")
	s.Priority = r.take(lex.Number).N
	r.need("ON")
	s.Event = r.number("INSERT", "DELETE", "UPDATE")
	r.need("TO")
	s.Table = r.name()
	s.Deferred = r.has("DEFERRED")
	if r.need("ALWAYS", "WHEN") == "WHEN" {
		s = r.from(s)
	}
	r.need("DO")
	if s.Rolls = r.has("ROLLBACK"); !s.Rolls {
		s.Acts = list(r, ";", r.act)
		r.need("END")
	}
	return s
}

// drop is what stands behind DROP.
func (r *reader) drop() ast.Stmt {
	kind := [3]int{ast.DropTable, ast.DropIndex, ast.DropRule}[r.number("TABLE", "INDEX", "RULE")-1]
	return ast.Stmt{Kind: kind, Name: r.name()}
}

func (r *reader) act() ast.Stmt { return r.actBehind(r.need("INSERT", "UPDATE", "DELETE")) }

// actBehind is what stands behind an act's first word.
func (r *reader) actBehind(first string) ast.Stmt {
	switch first {
	case "INSERT":
		return r.insert()
	case "UPDATE":
		return r.update()
	default:
		return r.deletion()
	}
}

func (r *reader) insert() ast.Stmt {
	r.need("INTO")
	s := ast.Stmt{Kind: ast.Insert, Table: r.name()}
	if r.need("VALUES", "SELECT") == "SELECT" {
		return r.items(s)
	}
	s.Values = inside(r, r.or)
	return s
}

func (r *reader) update() ast.Stmt {
	s := ast.Stmt{Kind: ast.Update, Table: r.name()}
	r.need("SET")
	s.Sets = list(r, ",", r.set)
	s.Where = r.where()
	return s
}

func (r *reader) set() ast.Set {
	x := ast.Set{Col: r.name()}
	r.need("=")
	x.E = r.or()
	return x
}

func (r *reader) deletion() ast.Stmt {
	r.need("FROM")
	s := ast.Stmt{Kind: ast.Delete, Table: r.name()}
	s.Where = r.where()
	return s
}

// items puts what stands behind SELECT into a statement.
func (r *reader) items(s ast.Stmt) ast.Stmt {
	if !r.has("*") {
		s.Items = list(r, ",", r.or)
	}
	r.need("FROM")
	return r.from(s)
}

// from puts sources, and the WHERE behind them, into a statement.
func (r *reader) from(s ast.Stmt) ast.Stmt {
	s.From = list(r, ",", r.source)
	s.Where = r.where()
	return s
}

// source counts on the words of transitions standing in the order of their Kinds.
func (r *reader) source() ast.Source {
	var s ast.Source
	if r.at(lex.Name) {
		s.Table = r.name()
	} else {
		s.Kind = r.number("INSERTED", "DELETED", "OLD", "NEW")
	}
	if r.at(lex.Name) {
		s.Var = r.name()
	}
	return s
}

func (r *reader) where() []ast.Expr {
	if !r.has("WHERE") {
		return nil
	}
	return []ast.Expr{r.or()}
}
