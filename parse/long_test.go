package parse_test

import (
	"strconv"
	"strings"
	"testing"

	"tripwire/api"
	"tripwire/ast"
)

// several is n times a text, each with its number in the place of #, with something between.
func several(n int, text, between string) string {
	var l []string
	for i := range n {
		l = append(l, strings.ReplaceAll(text, "#", strconv.Itoa(i)))
	}
	return strings.Join(l, between)
}

// holders are statements with a place for an expression, which is the @.
func holders() []string {
	return []string{
		"INSERT INTO t VALUES (@)",
		"INSERT INTO t VALUES (1, 2, 3, 4, 5, @)",
		"INSERT INTO t SELECT @ FROM t",
		"INSERT INTO t SELECT 1, @ FROM t WHERE a",
		"INSERT INTO t SELECT * FROM t WHERE @",
		"UPDATE t SET a = @",
		"UPDATE t SET a = 1, b = @, c = 2 WHERE b",
		"UPDATE t SET a = 1 WHERE @",
		"DELETE FROM t WHERE @",
		"SELECT @ FROM t",
		"SELECT 1, @, 2 FROM t, u",
		"SELECT * FROM t WHERE @",
		"CREATE RULE r PRIORITY 1 ON INSERT TO t WHEN t WHERE @ DO ROLLBACK",
		"CREATE RULE r PRIORITY 1 ON INSERT TO t ALWAYS DO DELETE FROM t WHERE @ END",
		"CREATE RULE r PRIORITY 1 ON INSERT TO t WHEN t DO DELETE FROM t; UPDATE u SET a = @; DELETE FROM t WHERE a END",
		"CREATE RULE r PRIORITY 1 ON INSERT TO t WHEN t DO DELETE FROM t; DELETE FROM t; DELETE FROM t; INSERT INTO t VALUES (@) END",
	}
}

func wantLong(t *testing.T, texts ...string) {
	t.Helper()
	for _, text := range texts {
		wantFault(t, text, long())
	}
}

// wantRead asks for a text that is read as something, and that its text is read as the same.
func wantRead(t *testing.T, texts ...string) {
	t.Helper()
	for _, text := range texts {
		s, x := toldStmt(text)
		if x != (api.Fault{}) {
			t.Errorf("%q is told as %v", short(text), x)
		}
		wantStmt(t, text, s)
		if again := ast.Show(s); len(again) <= 2000 {
			wantStmt(t, again, s)
		}
	}
}

// 2000 bytes are read, 2001 aren't, whatever they are.
func TestLongTexts(t *testing.T) {
	for _, x := range samples() {
		blanks := strings.Repeat(" ", 2000-len(x.text))
		wantStmt(t, x.text+blanks, x.s)
		wantStmt(t, blanks+x.text, x.s)
		wantLong(t, x.text+blanks+" ", blanks+x.text+"\n", "\t"+blanks+x.text)
		wantExprFault(t, x.text+blanks+" ", long())
	}
	a := strings.Repeat(" ", 1999)
	wantExpr(t, a+"a", col("a"))
	wantExpr(t, "a"+a, col("a"))
	wantExprFault(t, a+"a ", long())
	wantExprFault(t, " "+a+"a", long())
	for _, bad := range []string{"#", "a", "'", "(", "BEGIN ", "SELECT ", "\xff"} {
		for _, n := range []int{2001, 2002, 4000, 1 << 20} {
			text := strings.Repeat(bad, n)[:n]
			wantLong(t, text)
			wantExprFault(t, text, long())
		}
	}
	wantFault(t, strings.Repeat("#", 2000), syntax(0))
	wantFault(t, a+"#", syntax(1999))
	wantFault(t, a+"a", syntax(1999))
	wantFault(t, a+" ", syntax(2000))
	wantExprFault(t, a+" ", syntax(2000))
	wantFault(t, strings.Repeat("BEGIN ", 333)+"  ", syntax(6))
	wantExprFault(t, "a"+a[1:]+")", syntax(1999))
}

func TestTooMuch(t *testing.T) {
	for _, n := range []int{1, 5, 6, 7, 8, 40, 100} {
		as := wantRead
		if n > 6 {
			as = wantLong
		}
		as(t, "CREATE TABLE t ("+several(n, "c# INT", ", ")+")")
		as(t, "CREATE TABLE t ("+several(n, "c# TEXT NOT NULL", ", ")+")")
		as(t, "INSERT INTO t VALUES ("+several(n, "#", ", ")+")")
		as(t, "UPDATE t SET "+several(n, "c# = #", ", "))
		as(t, "UPDATE t SET "+several(n, "a = a", ", ")+" WHERE a")
		as(t, "CREATE RULE r PRIORITY 1 ON INSERT TO t ALWAYS DO INSERT INTO t VALUES ("+several(n, "#", ",")+") END")
		as(t, "CREATE RULE r PRIORITY 1 ON INSERT TO t ALWAYS DO DELETE FROM t; UPDATE t SET "+several(n, "a = #", ",")+" END")
	}
	for _, n := range []int{1, 2, 39, 40, 41, 42, 200, 400} {
		as := wantRead
		if n > 40 {
			as = wantLong
		}
		as(t, "SELECT "+several(n, "#", ", ")+" FROM t")
		as(t, "SELECT "+several(n, "a", ",")+" FROM t WHERE a")
		as(t, "INSERT INTO t SELECT "+several(n, "#", ",")+" FROM t")
		as(t, "CREATE RULE r PRIORITY 1 ON INSERT TO t ALWAYS DO INSERT INTO t SELECT "+several(n, "a", ",")+" FROM t END")
	}
	for _, n := range []int{1, 2, 3, 4, 5, 50} {
		as := wantRead
		if n > 3 {
			as = wantLong
		}
		as(t, "SELECT * FROM "+several(n, "t#", ", "), "SELECT a FROM "+several(n, "t", ",")+" WHERE a", "SELECT a FROM "+several(n, "OLD t#", ","))
		as(t, "INSERT INTO t SELECT * FROM "+several(n, "NEW", ", "))
		as(t, "CREATE RULE r PRIORITY 1 ON INSERT TO t WHEN "+several(n, "INSERTED", ", ")+" DO ROLLBACK")
		as(t, "CREATE RULE r PRIORITY 1 ON INSERT TO t WHEN "+several(n, "t#", ", ")+" WHERE a DO DELETE FROM t END")
		as(t, "CREATE RULE r PRIORITY 1 ON INSERT TO t ALWAYS DO INSERT INTO t SELECT * FROM "+several(n, "t t#", ", ")+" END")
	}
	for _, n := range []int{1, 2, 3, 4, 5, 6, 60} {
		as := wantRead
		if n > 4 {
			as = wantLong
		}
		as(t, "CREATE RULE r PRIORITY 1 ON INSERT TO t ALWAYS DO "+several(n, "DELETE FROM t#", "; ")+" END")
		as(t, "CREATE RULE r PRIORITY 1 ON INSERT TO t WHEN t WHERE a DO "+several(n, "UPDATE t SET a=#", ";")+" END")
	}
}

func TestPriorities(t *testing.T) {
	for _, p := range []string{"0", "1", "9", "10", "99", "100", "998", "999", "0999", "00000000000000000000000000000999"} {
		wantRead(t, "CREATE RULE r PRIORITY "+p+" ON INSERT TO t ALWAYS DO ROLLBACK", "CREATE RULE r PRIORITY "+p+" ON DELETE TO t WHEN t DO DELETE FROM t END")
	}
	for _, p := range []string{"1000", "1001", "9999", "1048576", "4294967296", "9223372036854775807", "01000"} {
		wantLong(t, "CREATE RULE r PRIORITY "+p+" ON INSERT TO t ALWAYS DO ROLLBACK", "CREATE RULE r PRIORITY "+p+" ON DELETE TO t WHEN t DO DELETE FROM t END")
	}
	wantFault(t, "CREATE RULE r PRIORITY 9223372036854775808 ON INSERT TO t ALWAYS DO ROLLBACK", syntax(23))
}

func TestColumnsTwice(t *testing.T) {
	for n := 2; n <= 6; n++ {
		for i := range n {
			for j := range i {
				l := strings.Split(several(n, "c# INT", ","), ",")
				wantRead(t, "CREATE TABLE t ("+strings.Join(l, ", ")+")")
				l[i] = l[j]
				wantLong(t, "CREATE TABLE t ("+strings.Join(l, ", ")+")")
				l[i] = strings.Replace(l[j], "INT", "TEXT NOT NULL UNIQUE", 1)
				wantLong(t, "CREATE TABLE t ("+strings.Join(l, ", ")+")")
			}
		}
	}
	wantRead(t, "CREATE TABLE a (a INT, aa INT)")
}

// deepTexts are texts with n expressions within one another.
func deepTexts(n int) []string {
	k := n - 1
	texts := []string{
		strings.Repeat("NOT ", k) + "a",
		strings.Repeat("- ", k) + "1",
		strings.Repeat("-(", k) + "1" + strings.Repeat(")", k),
		strings.Repeat("(NOT(", k) + "1" + strings.Repeat("))", k),
		strings.Repeat("(", k) + "a" + strings.Repeat(" IS NULL)", k),
		strings.Repeat("(", k) + "a" + strings.Repeat(" = b)", k),
		strings.Repeat("NOT ", k-k/2) + strings.Repeat("- ", k/2) + "a",
	}
	if k > 0 { // x IS NOT NULL is two of them
		texts = append(texts, strings.Repeat("NOT ", k%2)+strings.Repeat("(", k/2)+"a"+strings.Repeat(" IS NOT NULL)", k/2))
	}
	for _, s := range signs() {
		if s.close != closeCmp {
			texts = append(texts, "1"+strings.Repeat(" "+s.text+" 1", k))
		}
		texts = append(texts, strings.Repeat("(", k)+"1"+strings.Repeat(" "+s.text+" 1)", k), strings.Repeat("(1 "+s.text+" ", k)+"1"+strings.Repeat(")", k))
	}
	return texts
}

func TestDepth(t *testing.T) {
	t.Parallel()
	for _, n := range []int{1, 2, 3, 19, 20} {
		for _, text := range deepTexts(n) {
			e, x := told(text)
			if x != (api.Fault{}) || depth(e) != n {
				t.Fatalf("%s is told as %s, %v", text, short(e), x)
			}
			wantExpr(t, text, e)
			for _, h := range holders() {
				wantRead(t, strings.ReplaceAll(h, "@", text))
			}
		}
	}
	for _, n := range []int{21, 22, 40, 100} {
		for _, text := range deepTexts(n) {
			wantExprFault(t, text, long())
			for _, h := range holders() {
				wantLong(t, strings.ReplaceAll(h, "@", text))
			}
		}
	}
}

func depth(e ast.Expr) int {
	most := 0
	for _, kid := range e.Kids {
		most = max(most, depth(kid))
	}
	return most + 1
}

// As deep as 2000 bytes hold: what leaves nothing is read, what leaves something is too much, what doesn't end is told at its end.
func TestAsDeepAsCanBe(t *testing.T) {
	pairs := func(n int, s string) string { return strings.Repeat("(", n) + s + strings.Repeat(")", n) }
	wantExpr(t, pairs(999, "a"), col("a"))
	wantExpr(t, pairs(999, "1 "), num(1))
	wantExpr(t, pairs(990, "NOT a"), op("not", col("a")))
	wantStmt(t, "DELETE FROM t WHERE "+pairs(989, "a "), ast.Stmt{Kind: 14, Table: "t", Where: exprs(col("a"))})
	wantStmt(t, "INSERT INTO t VALUES ("+pairs(988, "1")+")", ast.Stmt{Kind: 12, Table: "t", Values: exprs(num(1))})
	wantExprFault(t, pairs(1000, "a"), long())
	wantExprFault(t, strings.Repeat("(", 2000), syntax(2000))
	wantExprFault(t, strings.Repeat(")", 2000), syntax(0))
	wantExprFault(t, pairs(999, "")+"a", syntax(999))
	wantExprFault(t, strings.Repeat("-", 2000), syntax(2000))
	wantExprFault(t, strings.Repeat("-", 1999)+"a", long())
	wantExprFault(t, strings.Repeat("NOT ", 500), syntax(2000))
	wantExprFault(t, strings.Repeat("NOT ", 499)+"a", long())
	wantExprFault(t, "a"+strings.Repeat("+a", 999), long())
	wantExprFault(t, "a"+strings.Repeat("*a", 999)+"*", syntax(2000))
	wantExprFault(t, "a"+strings.Repeat(" OR a", 399), long())
	wantExprFault(t, "a"+strings.Repeat(" AND a", 333), long())
	wantExprFault(t, strings.Repeat("-(", 660)+"a"+strings.Repeat(")", 660), long())
	wantExprFault(t, strings.Repeat("(a=", 499)+"a"+strings.Repeat(")", 499), long())
}
