package parse_test

import (
	"fmt"
	"slices"
	"strings"
	"testing"

	"tripwire/api"
	"tripwire/lex"
	"tripwire/parse"
)

// amiss holds what a text is read as, as a statement and as an expression, against the grammar; "", if nothing is wrong.
func amiss(text string) string {
	s, x := parse.Parse(text)
	if want, y := toldStmt(text); x != y || !same(s, want) {
		return fmt.Sprintf("%q is read as %q, %v, not as %q, %v", short(text), short(s), x, short(want), y)
	}
	e, x := parse.Expr(text)
	if want, y := told(text); x != y || !same(e, want) {
		return fmt.Sprintf("%q is read as %q, %v, not as %q, %v as an expression", short(text), short(e), x, short(want), y)
	}
	return ""
}

func wantAsTold(t *testing.T, text string) {
	t.Helper()
	if d := amiss(text); d != "" {
		t.Error(d)
	}
}

// pieces are the texts of a text's tokens, without the End.
func pieces(text string) []string {
	var l []string
	tokens, _ := lex.Tokens(text)
	for i := range tokens {
		if s := lex.Text(tokens[i : i+1]); s != "" {
			l = append(l, s)
		}
	}
	return l
}

// swapped is the pieces with others in the place of n of them from one on, and where those others begin.
func swapped(l []string, at, n int, others ...string) (string, int) {
	return joined(at, slices.Concat(l[:at], others, l[at+n:])...)
}

// alphabet is all words and signs of the grammar, and some of all that stand for themselves in none.
func alphabet() []string {
	var l []string
	for _, p := range rules {
		l = p.collect(l)
	}
	l = append(l, "t", "zz_9", "0", "12", "''", "'AND'", "'('", "X", "AS", "VALUE", "begin")
	slices.Sort(l)
	return slices.Compact(l)
}

// collect puts a part's words and signs behind others.
func (p part) collect(l []string) []string {
	if p.kind == 0 && rules[p.text].kind == 0 && strings.ToUpper(p.text) == p.text {
		return append(l, p.text)
	}
	for _, q := range p.parts {
		l = q.collect(l)
	}
	return l
}

func TestTheGrammarIsRead(t *testing.T) {
	if n := len(rules); n != 15 {
		t.Errorf("%d rules", n)
	}
	if l := alphabet(); len(l) != 42+14+11 {
		t.Errorf("%d words, signs and others: %v", len(l), l)
	}
	for _, x := range samples() {
		if s, fault := toldStmt(x.text); fault != (api.Fault{}) || !same(s, x.s) {
			t.Errorf("%s is told as %s, %v", x.text, short(s), fault)
		}
	}
}

// Texts without a token, and others with a place that can be counted off.
func TestPlaces(t *testing.T) {
	for text, at := range map[string]int{
		"": 0, " ": 1, "\n\t ": 3, "a": 0, "1": 0, "'BEGIN'": 0, "begin": 0, ";": 0, "(": 0, "X": 0, "  TO": 2, "END": 0,
		"BEGIN BEGIN": 6, "BEGIN;": 5, "COMMIT t": 7, "ABORT 1": 6, "SAVEPOINT": 9, "SAVEPOINT SAVEPOINT": 10, "SAVEPOINT a b": 12, "SAVEPOINT 1": 10, "SAVEPOINT 'a'": 10,
		"ROLLBACK": 8, "ROLLBACK a": 9, "ROLLBACK TO": 11, "ROLLBACK TO SAVEPOINT": 12,
		"CREATE": 6, "CREATE t": 7, "CREATE TABLE": 12, "CREATE TABLE t": 14, "CREATE TABLE t a INT": 15, "CREATE TABLE t ()": 16, "CREATE TABLE t (a)": 17,
		"CREATE TABLE t (a INT": 21, "CREATE TABLE t (a INT,)": 22, "CREATE TABLE t (a INT b INT)": 22, "CREATE TABLE t (a INT) b": 23,
		"CREATE TABLE t (a NULL)": 18, "CREATE TABLE t (a INT NULL)": 22, "CREATE TABLE t (a INT NOT)": 25, "CREATE TABLE t (a INT NOT UNIQUE)": 26,
		"CREATE TABLE t (a INT UNIQUE NOT NULL)": 29, "CREATE TABLE t (a INT UNIQUE UNIQUE)": 29, "CREATE TABLE t (a INT NOT NULL NOT NULL)": 31, "CREATE TABLE t (INT a)": 16, "CREATE TABLE t ((a INT))": 16,
		"CREATE INDEX i t (a)": 15, "CREATE INDEX i ON t": 19, "CREATE INDEX i ON t a": 20, "CREATE INDEX i ON t ()": 21, "CREATE INDEX i ON t (a, b)": 22, "CREATE INDEX i ON t (a": 22, "CREATE INDEX ON t (a)": 13, "CREATE INDEX i ON t (1)": 21,
		"DROP": 4, "DROP t": 5, "DROP TABLE": 10, "DROP TABLE t, u": 12, "DROP SAVEPOINT t": 5,
		"INSERT": 6, "INSERT t": 7, "INSERT INTO VALUES (1)": 12, "INSERT INTO t": 13, "INSERT INTO t (1)": 14, "INSERT INTO t VALUES": 20, "INSERT INTO t VALUES 1": 21, "INSERT INTO t VALUES ()": 22,
		"INSERT INTO t VALUES (1": 23, "INSERT INTO t VALUES (1,": 24, "INSERT INTO t VALUES (1,)": 24, "INSERT INTO t VALUES (1 2)": 24, "INSERT INTO t VALUES (1) WHERE a": 25, "INSERT INTO t VALUES (*)": 22, "INSERT INTO t VALUES (1), (2)": 24, "INSERT INTO t (SELECT * FROM u)": 14, "INSERT INTO OLD VALUES (1)": 12,
		"UPDATE": 6, "UPDATE t": 8, "UPDATE t SET": 12, "UPDATE t SET a": 14, "UPDATE t SET a =": 16, "UPDATE t SET a < 1": 15, "UPDATE t SET a = 1,": 19, "UPDATE t SET a = 1, WHERE": 20, "UPDATE t SET a = 1, b": 21, "UPDATE t SET a = 1 b = 2": 19, "UPDATE t SET x.a = 1": 14, "UPDATE t WHERE a": 9, "UPDATE t SET (a = 1)": 13, "UPDATE t SET a = 1 = 2 = 3": 23, "UPDATE t x SET a = 1": 9, "UPDATE t SET 1 = a": 13,
		"DELETE": 6, "DELETE t": 7, "DELETE FROM": 11, "DELETE FROM t WHERE": 19, "DELETE FROM t a": 14, "DELETE FROM t, u": 13, "DELETE FROM t WHERE a WHERE a": 22, "DELETE * FROM t": 7, "DELETE FROM NEW": 12,
		"SELECT": 6, "SELECT *": 8, "SELECT * FROM": 13, "SELECT FROM t": 7, "SELECT a FROM": 13, "SELECT a, FROM t": 10, "SELECT a,": 9, "SELECT *, a FROM t": 8, "SELECT a, * FROM t": 10, "SELECT (*) FROM t": 8, "SELECT * a FROM t": 9, "SELECT a b FROM t": 9, "SELECT * FROM t,": 16, "SELECT * FROM t, WHERE": 17, "SELECT * FROM 1": 14, "SELECT * FROM (t)": 14, "SELECT * FROM t x y": 18, "SELECT * FROM t OLD": 16, "SELECT * FROM OLD NEW": 18, "SELECT * FROM t.x": 15, "SELECT * FROM t WHERE": 21, "SELECT * FROM t WHERE *": 22, "SELECT * FROM t WHERE a, b": 23, "SELECT a. FROM t": 10, "SELECT a.b.c FROM t": 10, "SELECT a.1 FROM t": 9, "SELECT a.OLD FROM t": 9, "SELECT OLD.a FROM t": 7, "SELECT .a FROM t": 7, "SELECT * WHERE a": 9, "SELECT * FROM t;": 15,
		"CREATE RULE": 11, "CREATE RULE r ON": 14, "CREATE RULE r PRIORITY x ON": 23, "CREATE RULE r PRIORITY -1 ON": 23, "CREATE RULE r PRIORITY '1'": 23, "CREATE RULE r PRIORITY (1)": 23, "CREATE RULE r PRIORITY 1 TO": 25,
		"CREATE RULE r PRIORITY 1 ON SELECT TO t": 28, "CREATE RULE r PRIORITY 1 ON t": 28, "CREATE RULE r PRIORITY 1 ON INSERT INTO t": 35, "CREATE RULE r PRIORITY 1 ON INSERT TO OLD": 38, "CREATE RULE r PRIORITY 1 ON INSERT TO t": 39,
		"CREATE RULE r PRIORITY 1 ON INSERT TO t DO": 40, "CREATE RULE r PRIORITY 1 ON INSERT TO t DEFERRED": 48, "CREATE RULE r PRIORITY 1 ON INSERT TO t DEFERRED DEFERRED": 49, "CREATE RULE r PRIORITY 1 ON INSERT TO t ALWAYS DEFERRED": 47, "CREATE RULE r PRIORITY 1 ON INSERT TO t ALWAYS WHEN": 47, "CREATE RULE r PRIORITY 1 ON INSERT TO t ALWAYS WHERE a": 47, "CREATE RULE r PRIORITY 1 ON INSERT TO t WHEN DO": 45, "CREATE RULE r PRIORITY 1 ON INSERT TO t WHEN WHERE a": 45, "CREATE RULE r PRIORITY 1 ON INSERT TO t WHERE a": 40,
	} {
		wantFault(t, text, syntax(at))
	}
	rule := "CREATE RULE r PRIORITY 1 ON INSERT TO t ALWAYS DO"
	for text, at := range map[string]int{
		"": 0, " END": 1, " BEGIN END": 1, " SELECT * FROM t END": 1, " ROLLBACK END": 10, " ROLLBACK TO p": 10, " ROLLBACK;": 9, " DELETE FROM t": 14, " DELETE FROM t;": 15, " DELETE FROM t; END": 16, " DELETE FROM t; ROLLBACK": 16,
		" DELETE FROM t, DELETE FROM u END": 14, " DELETE FROM t DELETE FROM u END": 15, " DELETE FROM t END END": 19, " DELETE FROM t END;": 18, " ;": 1, " COMMIT END": 1, " DELETE FROM t;; DELETE FROM u END": 15, " (DELETE FROM t) END": 1,
		" CREATE TABLE t (a INT) END": 1, " DELETE FROM t END DELETE FROM t": 19,
	} {
		wantFault(t, rule+text, syntax(len(rule)+at))
	}
}

func TestPlacesInExpressions(t *testing.T) {
	for text, at := range map[string]int{
		"": 0, "  ": 2, "OR": 0, "a OR": 4, "a OR OR b": 5, "a OR AND b": 5, "AND a": 0, "a AND": 5, "a AND OR b": 6, "a = ": 4, "a = = b": 4, "= a": 0, "a <> < b": 5, "a < > b": 4, "a == b": 3,
		"a + ": 4, "a + + b": 4, "a + * b": 4, "a * ": 4, "a * * b": 4, "* a": 0, "a b": 2, "a 1": 2, "1 a": 2, "1 1": 2, "'a' 'b'": 4, "a 'b'": 2, "NULL NULL": 5, "TRUE FALSE": 5, "a.": 2, "a. ": 3, "a.b.": 3, "a.b.c": 3, "1.a": 1, "a.1": 2, "a.NULL": 2, "'a'.b": 3, "NULL.a": 4, "(a).b": 3,
		"a,b": 1, "a;": 1, "a WHERE": 2, "SELECT": 0, "X": 0, "a X": 2, "a = NOT b": 4, "a + NOT b": 4, "a * NOT b": 4, "- NOT a": 2, "a < b < c": 6, "a = b IS NULL": 6, "a IS NULL = b": 10, "a AND (b": 8, "(a OR b))": 8, "a BETWEEN b": 2, "NOT": 3, "NOT )": 4, "- )": 2, "(a": 2, "((a)": 4, "OLD": 0, "a OR INSERTED": 5,
	} {
		wantExprFault(t, text, syntax(at))
		wantFault(t, "DELETE FROM t WHERE "+text, syntax(20+at))
	}
}

func TestATokenInThePlaceOfAnother(t *testing.T) {
	t.Parallel()
	other := alphabet()
	for _, x := range samples() {
		l := pieces(x.text)
		for at := range l {
			for _, s := range other {
				text, _ := swapped(l, at, 1, s)
				wantAsTold(t, text)
			}
		}
	}
}

func TestATokenLeftOut(t *testing.T) {
	for _, x := range samples() {
		l := pieces(x.text)
		for at := range l {
			text, _ := swapped(l, at, 1)
			wantAsTold(t, text)
		}
	}
}

func TestATokenMore(t *testing.T) {
	t.Parallel()
	other := alphabet()
	for _, x := range samples() {
		l := pieces(x.text)
		for at := range len(l) + 1 {
			for _, s := range other {
				text, _ := swapped(l, at, 0, s)
				wantAsTold(t, text)
			}
		}
	}
}

// Behind a statement whose last token can't be followed by anything, whatever stands there is the place.
func TestOneTokenBehindTheEnd(t *testing.T) {
	for _, x := range samples() {
		for _, s := range []string{"X", "BEGIN", ";", ")", "(", "''", "1", "END", "TO"} {
			wantFault(t, x.text+" "+s, syntax(len(x.text)+1))
		}
	}
}

// A text that ends too early is told at the End's place, which blanks behind it move.
func TestEndedBehindEachToken(t *testing.T) {
	for _, x := range samples() {
		l := pieces(x.text)
		for at := range l {
			text := strings.Join(l[:at], " ")
			if _, fault := toldStmt(text); fault == (api.Fault{}) {
				wantAsTold(t, text)
				continue
			}
			wantFault(t, text, syntax(len(text)))
			wantFault(t, text+" \n ", syntax(len(text)+3))
		}
	}
}

// A word that can't stand anywhere is told where it stands; of two the first one.
func TestTheFirstPlaceIsTold(t *testing.T) {
	for _, x := range samples() {
		l := pieces(x.text)
		for at := range l {
			text, place := swapped(l, at, 1, "NOWHERE")
			wantFault(t, text, syntax(place))
			for then := at + 1; then < len(l); then++ {
				two := slices.Clone(l)
				two[at], two[then] = "NOWHERE", "EITHER"
				text, place := joined(at, two...)
				wantFault(t, text, syntax(place))
			}
			text, place = swapped(l, at, 0, "NOWHERE", ")", ")")
			wantFault(t, text, syntax(place))
		}
	}
}

// A text between quotes is never a word or a sign, whatever stands in it.
func TestQuotedWords(t *testing.T) {
	for _, x := range samples() {
		tokens, _ := lex.Tokens(x.text)
		l := pieces(x.text)
		for at := range l {
			if tokens[at].Kind == lex.Word || tokens[at].Kind == lex.Sym {
				text, place := swapped(l, at, 1, "'"+l[at]+"'")
				wantAsTold(t, text)
				if _, fault := parse.Parse(text); l[at] != "NULL" && l[at] != "*" && l[at] != "-" && l[at] != "NOT" && fault != syntax(place) {
					t.Errorf("%s: %v", text, fault)
				}
			}
		}
	}
}

// The fault of the tokens goes ahead of any other, wherever it stands.
func TestFaultsOfTokens(t *testing.T) {
	for _, bad := range []string{"#", "aB", "Begin", "_a", "1a", "9223372036854775808", "'a", "'" + strings.Repeat("x", 25) + "'", "abcdefghijklmnopq", "\r", "\x00", "!", "A1"} {
		for _, x := range samples() {
			l := pieces(x.text)
			for at := range len(l) + 1 {
				if strings.HasPrefix(bad, "'a") && at < len(l) && strings.Contains(x.text, "'") {
					continue // it would end at another quote
				}
				text, place := swapped(l, at, 0, bad)
				wantFault(t, text, syntax(place))
				wantFault(t, "NOWHERE "+text, syntax(8+place))
				wantExprFault(t, text, syntax(place))
			}
		}
		wantFault(t, bad, syntax(0))
		wantExprFault(t, "a + "+bad, syntax(4))
		wantExprFault(t, "+ + "+bad, syntax(4))
		wantExprFault(t, ") # "+bad, syntax(2))
	}
}

// What would be too much isn't asked for ahead of a place.
func TestPlacesAheadOfTooMuch(t *testing.T) {
	for _, text := range []string{
		"SELECT " + strings.Repeat("1, ", 60) + "1 FROM t WHERE",
		"SELECT * FROM a, b, c, d,",
		"INSERT INTO t VALUES (1, 2, 3, 4, 5, 6, 7",
		"CREATE TABLE t (a INT, a INT, a INT, a INT, a INT, a INT, a INT",
		"CREATE RULE r PRIORITY 1000 ON INSERT TO t ALWAYS DO",
		"DELETE FROM t WHERE " + strings.Repeat("- ", 100),
		"DELETE FROM t WHERE " + strings.Repeat("NOT ", 100),
		"DELETE FROM t WHERE 1" + strings.Repeat(" + 1", 100) + " +",
	} {
		wantFault(t, text, syntax(len(text)))
		wantFault(t, text+" #", syntax(len(text)+1))
		wantFault(t, text+" WHEN", syntax(len(text)+1))
	}
}
