package parse_test

import (
	"slices"
	"strings"
	"testing"

	"tripwire/api"
	"tripwire/parse"
)

// goOn holds all texts of at most many tokens against the grammar that begin with some tokens, but goes on behind those
// alone that can go on: behind others all is one. It tells how many there are, and how many are read.
func goOn(t *testing.T, l, tokens []string, many int, fault func(string) api.Fault) (all, read int) {
	text := strings.Join(l, " ")
	wantAsTold(t, text)
	x := fault(text)
	if x == (api.Fault{}) {
		read++
	}
	if len(l) == many || x.Code == api.ErrSyntax && x.At < len(text) || t.Failed() {
		return 1, read
	}
	for _, s := range tokens {
		n, more := goOn(t, append(l[:len(l):len(l)], s), tokens, many, fault)
		all, read = all+n, read+more
	}
	return all + 1, read
}

func asExpr(text string) api.Fault {
	_, x := parse.Expr(text)
	return x
}

func asStmt(text string) api.Fault {
	_, x := parse.Parse(text)
	return x
}

func TestAllShortExpressions(t *testing.T) {
	t.Parallel()
	all, read := goOn(t, nil, []string{"a", "1", "(", ")", ".", "+", "-", "*", "=", "<", "IS", "NOT", "NULL", "AND", "OR"}, 5, asExpr)
	if all < 20000 || read < 2000 {
		t.Errorf("%d in all, %d are read", all, read)
	}
	all, read = goOn(t, nil, []string{"a", "(", ")", "-", "=", "NOT", "OR"}, 7, asExpr)
	if all < 20000 || read < 500 {
		t.Errorf("%d in all, %d are read", all, read)
	}
}

// Of names, numbers and texts between quotes there is one each.
func TestAllShortStatements(t *testing.T) {
	t.Parallel()
	tokens := slices.DeleteFunc(alphabet(), func(s string) bool {
		return slices.Contains([]string{"zz_9", "0", "12", "''", "'('", "AS", "VALUE", "begin"}, s)
	})
	all, read := goOn(t, nil, append(tokens, "7"), 5, asStmt)
	if all < 5000 || read < 50 {
		t.Errorf("%d in all, %d are read", all, read)
	}
}

// The tokens that may stand behind the beginning of a rule, of a column, of a source and of settings.
func TestAllShortEnds(t *testing.T) {
	t.Parallel()
	for begin, tokens := range map[string]string{
		"CREATE RULE r PRIORITY 1 ON INSERT TO t":                         "DEFERRED ALWAYS WHEN WHERE DO ROLLBACK t , NEW END",
		"CREATE RULE r PRIORITY 1 ON INSERT TO t ALWAYS DO DELETE FROM t": "; END DELETE FROM t WHERE ROLLBACK",
		"CREATE TABLE t (": "a b INT NOT NULL UNIQUE , ) BOOL",
		"SELECT * FROM t":  "a , WHERE OLD 1 AND . SELECT *",
		"SELECT a":         "a , FROM * . 1 t WHERE",
		"UPDATE t SET a":   "= a , 1 WHERE SET (",
		"INSERT INTO t":    "VALUES SELECT ( ) 1 , * FROM t WHERE",
		"DELETE FROM t":    "WHERE a . = 1 AND FROM t",
	} {
		l := pieces(begin)
		all, read := goOn(t, l, strings.Fields(tokens), len(l)+7, asStmt)
		if all < 100 || read < 5 {
			t.Errorf("%s: %d in all, %d are read", begin, all, read)
		}
	}
}
