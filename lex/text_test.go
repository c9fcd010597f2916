package lex_test

import (
	"math"
	"strings"
	"testing"

	"tripwire/lex"
)

func wantText(t *testing.T, want string, l ...lex.Token) {
	t.Helper()
	if got := lex.Text(l); got != want {
		t.Errorf("Text of %s: %q, not %q", told(l), short(got), short(want))
	}
}

// nothings are tokens that have no text, whatever their other fields are.
func nothings() []lex.Token {
	var l []lex.Token
	for _, k := range []int{lex.End, -1, 6, 7, 255, 256, 257, 260, math.MinInt, math.MaxInt} {
		l = append(l, lex.Token{Kind: k}, lex.Token{Kind: k, N: 7, At: 3, S: "x"}, lex.Token{Kind: k, S: "A b"}, lex.Token{Kind: k, N: -1})
	}
	return l
}

func TestTextOfNoTokens(t *testing.T) {
	wantText(t, "")
	if s := lex.Text([]lex.Token{}); s != "" {
		t.Errorf("%q", s)
	}
	if s := lex.Text(nil); s != "" {
		t.Errorf("%q", s)
	}
	wantText(t, "", nothings()...)
	for _, e := range nothings() {
		wantText(t, "", e)
		wantText(t, "", e, e)
	}
}

func TestTextOfOne(t *testing.T) {
	for _, s := range []string{"A", "SELECT", strings.Repeat("Z", 3000)} {
		wantText(t, s, word(s))
	}
	for _, s := range []string{"a", "a_1", "abcdefghijklmnop"} {
		wantText(t, s, name(s))
	}
	for _, s := range strings.Fields("<> <= >= < > = + - * ( ) , . ;") {
		wantText(t, s, sym(s))
	}
	for own, s := range map[string]string{
		"": "''", "a": "'a'", "'": "''''", "''": "''''''", "it's": "'it''s'", "'a": "'''a'", "a'": "'a'''", " \n": "' \n'", "\x00\xff": "'\x00\xff'", "\xc3\xa4": "'\xc3\xa4'",
		strings.Repeat("'", 24): strings.Repeat("'", 50), strings.Repeat("x", 24): "'" + strings.Repeat("x", 24) + "'",
		strings.Repeat("x", 25): "'" + strings.Repeat("x", 25) + "'", // no Str has so many, but it has a text
	} {
		wantText(t, s, str(own))
	}
}

func TestTextOfNumbers(t *testing.T) {
	for s, n := range map[string]int{
		"0": 0, "7": 7, "10": 10, "1000000": 1000000, "4294967296": 1 << 32, "9223372036854775806": math.MaxInt - 1, "9223372036854775807": math.MaxInt,
		"-1": -1, "-10": -10, "-9223372036854775807": -math.MaxInt, "-9223372036854775808": math.MinInt,
	} {
		wantText(t, s, number(n))
		wantText(t, "( "+s+" ) "+s, sym("("), number(n), sym(")"), number(n))
	}
}

// What a kind doesn't use is not looked at, nor is the place.
func TestTextLooksAtItsKindsFieldsAlone(t *testing.T) {
	for _, place := range []int{0, 1, -1, 77, math.MinInt, math.MaxInt} {
		wantText(t, "A a < 'b' 5",
			lex.Token{Kind: 1, N: 9, At: place, S: "A"}, lex.Token{Kind: 2, N: -9, At: place, S: "a"}, lex.Token{Kind: 5, N: 8, At: place, S: "<"},
			lex.Token{Kind: 4, N: 7, At: place, S: "b"}, lex.Token{Kind: 3, N: 5, At: place, S: "x"})
	}
}

// What no token has as its S is told all the same: S alone decides.
func TestTextOfAnyS(t *testing.T) {
	for _, s := range []string{"a b", "'", "1", "SELECT", "sel", "!", "\x00", " ", "\xff", "<=>"} {
		wantText(t, s, word(s))
		wantText(t, s, name(s))
		wantText(t, s, sym(s))
		wantText(t, s+" "+s+" "+s, word(s), name(s), sym(s))
	}
}

func TestTextHasOneBlankBetween(t *testing.T) {
	wantText(t, "t1 . a", name("t1"), sym("."), name("a"))
	wantText(t, "SELECT * FROM t WHERE a <> 'it''s' OR 7 >= ( x )",
		word("SELECT"), sym("*"), word("FROM"), name("t"), word("WHERE"), name("a"), sym("<>"), str("it's"), word("OR"), number(7), sym(">="), sym("("), name("x"), sym(")"))
	wantText(t, "'' '' ''", str(""), str(""), str(""))
	for _, p := range pieces() {
		for _, q := range pieces() {
			one, two := lex.Text([]lex.Token{p.t}), lex.Text([]lex.Token{q.t})
			wantText(t, one+" "+two, p.t, q.t)
			wantText(t, one+" "+two+" "+one, p.t, q.t, p.t)
		}
	}
	many := strings.Repeat("a ", 50000)
	l, _ := lex.Tokens(many)
	wantText(t, many[:len(many)-1], l...)
}

// Tokens without a text leave no blank either, wherever they stand.
func TestTextPassesOverWhatHasNone(t *testing.T) {
	for _, e := range nothings() {
		wantText(t, "a", name("a"), e)
		wantText(t, "a", e, name("a"))
		wantText(t, "a", e, e, name("a"), e, e)
		wantText(t, "a B", name("a"), e, word("B"))
		wantText(t, "a B 3", e, name("a"), e, e, word("B"), e, number(3), e)
	}
}
