package lex_test

import (
	"fmt"
	"slices"
	"strings"
	"testing"

	"tripwire/api"
	"tripwire/lex"
)

func word(s string) lex.Token { return lex.Token{Kind: 1, S: s} }

func name(s string) lex.Token { return lex.Token{Kind: 2, S: s} }

func number(n int) lex.Token { return lex.Token{Kind: 3, N: n} }

func str(s string) lex.Token { return lex.Token{Kind: 4, S: s} }

func sym(s string) lex.Token { return lex.Token{Kind: 5, S: s} }

// at is the token at a place.
func at(n int, t lex.Token) lex.Token {
	t.At = n
	return t
}

// short is a text, or how it begins and how long it is.
func short(s string) string {
	if len(s) <= 80 {
		return s
	}
	return s[:80] + ".. (long)"
}

// told is tokens as a message tells them: no more than the first ones, and bytes that can't be printed as numbers.
func told(l []lex.Token) string {
	var b strings.Builder
	for _, t := range l[:min(len(l), 20)] {
		fmt.Fprintf(&b, "{%d %d at %d %q}", t.Kind, t.N, t.At, short(t.S))
	}
	return fmt.Sprintf("%d tokens [%s]", len(l), b.String())
}

// wantTokens takes the tokens of a text but for the End, which it asks for at the text's length.
func wantTokens(t *testing.T, s string, want ...lex.Token) {
	t.Helper()
	got, x := lex.Tokens(s)
	want = append(slices.Clone(want), lex.Token{At: len(s)})
	if x != (api.Fault{}) || !slices.Equal(got, want) {
		t.Errorf("%q: %s, %v, not %s", short(s), told(got), x, told(want))
	}
}

// wantFault asks for ErrSyntax at a place, and for no tokens.
func wantFault(t *testing.T, s string, place int) {
	t.Helper()
	if got, x := lex.Tokens(s); x != (api.Fault{Code: api.ErrSyntax, At: place}) || got != nil {
		t.Errorf("%q: %s, %v, not ErrSyntax at %d", short(s), told(got), x, place)
	}
}

// piece is a text that is one token.
type piece struct {
	s string
	t lex.Token
}

// pieces are texts of each kind that are one token each.
func pieces() []piece {
	l := []piece{
		{"A", word("A")}, {"SELECT", word("SELECT")}, {"ZZ", word("ZZ")}, {"NULL", word("NULL")},
		{"a", name("a")}, {"z9_", name("z9_")}, {"select", name("select")}, {"a_very_long_name", name("a_very_long_name")},
		{"0", number(0)}, {"7", number(7)}, {"007", number(7)}, {"9223372036854775807", number(1<<63 - 1)},
		{"''", str("")}, {"'x'", str("x")}, {"''''", str("'")}, {"'it''s'", str("it's")}, {"' \n\t'", str(" \n\t")}, {"'SELECT 1'", str("SELECT 1")},
	}
	for _, s := range strings.Fields("<> <= >= < > = + - * ( ) , . ;") {
		l = append(l, piece{s, sym(s)})
	}
	return l
}

func TestExample(t *testing.T) {
	wantTokens(t, "a<=1", name("a"), at(1, sym("<=")), at(3, number(1)))
}

func TestKindsHaveTheirNumbers(t *testing.T) {
	if lex.End != 0 || lex.Word != 1 || lex.Name != 2 || lex.Number != 3 || lex.Str != 4 || lex.Sym != 5 {
		t.Error(lex.End, lex.Word, lex.Name, lex.Number, lex.Str, lex.Sym)
	}
}

func TestNoTokens(t *testing.T) {
	wantTokens(t, "")
	for _, s := range []string{" ", "\t", "\n", "  ", " \t\n", "\n\n\t\t  ", strings.Repeat(" ", 1000), strings.Repeat("\n\t ", 1000)} {
		wantTokens(t, s)
	}
}

func TestOneTokenAmongBlanks(t *testing.T) {
	blanks := []string{"", " ", "\t", "\n", "  ", "\t\t", "\n\n", " \t\n", "\n\t ", "     "}
	for _, p := range pieces() {
		for _, ahead := range blanks {
			for _, behind := range blanks {
				wantTokens(t, ahead+p.s+behind, at(len(ahead), p.t))
			}
		}
	}
}

func TestPairsWithBlanksBetween(t *testing.T) {
	for _, p := range pieces() {
		for _, q := range pieces() {
			for _, between := range []string{" ", "\t", "\n", "   ", "\n \t"} {
				wantTokens(t, p.s+between+q.s, p.t, at(len(p.s+between), q.t))
			}
		}
	}
}

// grows tells whether two texts are not the two tokens that they are alone, if nothing stands between.
func grows(p, q piece) bool {
	inRun := func(k int) bool { return k == lex.Word || k == lex.Name || k == lex.Number }
	switch {
	case inRun(p.t.Kind) && inRun(q.t.Kind), p.t.Kind == lex.Str && q.t.Kind == lex.Str:
		return true
	}
	return p.s == "<" && (q.s[0] == '>' || q.s[0] == '=') || p.s == ">" && q.s[0] == '='
}

func TestPairsWithoutBlanks(t *testing.T) {
	for _, p := range pieces() {
		for _, q := range pieces() {
			if !grows(p, q) {
				wantTokens(t, p.s+q.s, p.t, at(len(p.s), q.t))
			}
		}
	}
}

func TestTriplesWithoutBlanks(t *testing.T) {
	for _, p := range pieces() {
		for _, q := range pieces() {
			for _, r := range pieces() {
				if !grows(p, q) && !grows(q, r) {
					wantTokens(t, p.s+q.s+r.s, p.t, at(len(p.s), q.t), at(len(p.s+q.s), r.t))
				}
			}
		}
	}
}

func TestWholeStatement(t *testing.T) {
	wantTokens(t, "INSERT INTO t\n\tVALUES(1,'a''b',-2);",
		word("INSERT"), at(7, word("INTO")), at(12, name("t")), at(15, word("VALUES")), at(21, sym("(")), at(22, number(1)), at(23, sym(",")),
		at(24, str("a'b")), at(30, sym(",")), at(31, sym("-")), at(32, number(2)), at(33, sym(")")), at(34, sym(";")))
	wantTokens(t, "t1.a+b1*(c)", name("t1"), at(2, sym(".")), at(3, name("a")), at(4, sym("+")), at(5, name("b1")), at(7, sym("*")),
		at(8, sym("(")), at(9, name("c")), at(10, sym(")")))
}

// A token that is none is told at its own place, also where others stand ahead of it, or more of its kind behind it.
func TestFirstFaultIsTold(t *testing.T) {
	open := []string{"'", "'x", "'x''"} // a quote behind them would end them, so they stand last alone
	closed := []string{"!", "aB", "1a", "_", "9223372036854775808", "A1", "\x00", "\r", "\xff", "'" + strings.Repeat("x", 25) + "'", strings.Repeat("a", 17)}
	wrong := append(open, closed...)
	for _, s := range wrong {
		wantFault(t, s, 0)
		for _, blank := range []string{" ", "\t", "\n", "  \n"} {
			wantFault(t, blank+s, len(blank))
		}
		for _, p := range pieces() {
			wantFault(t, p.s+" "+s, len(p.s)+1)
			wantFault(t, p.s+"\n\t"+s, len(p.s)+2)
		}
	}
	for _, s := range closed {
		for _, p := range pieces() {
			wantFault(t, s+" "+p.s, 0)
		}
		for _, next := range wrong {
			wantFault(t, s+" "+next, 0)
			wantFault(t, "a "+s+"\n"+next+" "+next, 2)
		}
	}
}

func TestFaultBehindMany(t *testing.T) {
	for _, n := range []int{1, 2, 10, 1000, 100000} {
		wantFault(t, strings.Repeat("a ", n)+"?", 2*n)
		wantFault(t, strings.Repeat("(", n)+"'", n)
		wantFault(t, strings.Repeat(" ", n)+"_", n)
	}
}

func TestManyTokens(t *testing.T) {
	n := 100000
	got, x := lex.Tokens(strings.Repeat("a<'b'\n", n))
	if x != (api.Fault{}) || len(got) != 3*n+1 {
		t.Fatal(len(got), x)
	}
	for i := range n {
		if got[3*i] != at(6*i, name("a")) || got[3*i+1] != at(6*i+1, sym("<")) || got[3*i+2] != at(6*i+2, str("b")) {
			t.Fatal(i, told(got[3*i:3*i+3]))
		}
	}
	if got[3*n] != (lex.Token{At: 6 * n}) {
		t.Error(told(got[3*n:]))
	}
}
