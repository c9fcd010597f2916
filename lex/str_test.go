package lex_test

import (
	"strings"
	"testing"
)

func TestStrs(t *testing.T) {
	for _, p := range []piece{
		{"''", str("")}, {"' '", str(" ")}, {"'a'", str("a")}, {"'A'", str("A")}, {"'1'", str("1")}, {"'_'", str("_")},
		{"''''", str("'")}, {"''''''", str("''")}, {"'''a'", str("'a")}, {"'a'''", str("a'")}, {"'a''b'", str("a'b")},
		{"'''a'''", str("'a'")}, {"'''''a'", str("''a")}, {"'a''''b'", str("a''b")}, {"'a'''''", str("a''")}, {"''' '''", str("' '")},
		{"'it''s'", str("it's")}, {"'<>'", str("<>")}, {"'a b'", str("a b")}, {"'\n'", str("\n")}, {"'a\nb\tc\r'", str("a\nb\tc\r")},
		{"'\"'", str("\"")}, {"'\\'", str("\\")}, {"'\\n'", str("\\n")}, {"'`'", str("`")},
		{"'\xc3\xa4'", str("\xc3\xa4")}, {"'\xff\xfe'", str("\xff\xfe")}, {"'\xc3'", str("\xc3")}, {"'\x00'", str("\x00")}, {"'\xe2\x80\x99'", str("\xe2\x80\x99")},
	} {
		wantTokens(t, p.s, p.t)
		wantTokens(t, " "+p.s+"\n", at(1, p.t))
		wantTokens(t, "a"+p.s+"b", name("a"), at(1, p.t), at(1+len(p.s), name("b")))
		wantTokens(t, "("+p.s+")", sym("("), at(1, p.t), at(1+len(p.s), sym(")")))
		wantTokens(t, p.s+" "+p.s, p.t, at(len(p.s)+1, p.t))
	}
}

func TestEachByteWithinAStr(t *testing.T) {
	for c := range 256 {
		if c == '\'' {
			continue
		}
		s := string([]byte{byte(c)})
		wantTokens(t, "'"+s+"'", str(s))
		wantTokens(t, "'a"+s+s+"b'", str("a"+s+s+"b"))
		wantTokens(t, "'''"+s+"'''", str("'"+s+"'"))
		wantTokens(t, "'"+strings.Repeat(s, 24)+"'", str(strings.Repeat(s, 24)))
		wantFault(t, "'"+strings.Repeat(s, 25)+"'", 0)
	}
}

// What is counted is the text's own bytes: a quote that stands twice is one.
func TestStrsByLength(t *testing.T) {
	for n := range 60 {
		for _, own := range []string{"x", "'", "x'", "'x", "''x", "\xc3\xa4", "\xff", "\n"} {
			own = strings.Repeat(own, n)[:n]
			s := "'" + strings.ReplaceAll(own, "'", "''") + "'"
			if n <= 24 {
				wantTokens(t, s, str(own))
				wantTokens(t, "a "+s+",", name("a"), at(2, str(own)), at(2+len(s), sym(",")))
				continue
			}
			wantFault(t, s, 0)
			wantFault(t, "a "+s+",", 2)
			wantFault(t, s+" "+s, 0)
		}
	}
}

func TestOneQuoteAtEachPlaceOfALongStr(t *testing.T) {
	for n := 22; n <= 26; n++ {
		for k := range n {
			own := strings.Repeat("x", k) + "'" + strings.Repeat("y", n-k-1)
			s := "'" + strings.ReplaceAll(own, "'", "''") + "'"
			if n <= 24 {
				wantTokens(t, s, str(own))
			} else {
				wantFault(t, s, 0)
			}
		}
	}
}

func TestStrsThatDontEnd(t *testing.T) {
	for _, s := range []string{
		"'", "'a", "'a b", "'''", "'a''", "'''a", "'''''", "'a''''", "'a''b", "'a''b''", "' ", "'\n", "'a\n", "'\x00", "'\xff", "'SELECT * FROM t;",
		"'" + strings.Repeat("x", 24), "'" + strings.Repeat("x", 25), "'" + strings.Repeat("x", 24) + "''", "'" + strings.Repeat("''", 24), "'" + strings.Repeat("''", 25),
		"'" + strings.Repeat("x", 1<<20), "'" + strings.Repeat("''", 1<<20),
	} {
		wantFault(t, s, 0)
		wantFault(t, "\t"+s, 1)
		wantFault(t, "a"+s, 1)
		wantFault(t, "'b' "+s, 4)
		wantFault(t, "A 1 <= "+s, 7)
	}
}

// Quotes alone: with an even number of them they are one text, else it doesn't end.
func TestQuotesAlone(t *testing.T) {
	for n := 1; n <= 120; n++ {
		s := strings.Repeat("'", n)
		switch own := n/2 - 1; {
		case n%2 == 0 && own <= 24:
			wantTokens(t, s, str(strings.Repeat("'", own)))
			wantTokens(t, s+" "+s, str(strings.Repeat("'", own)), at(n+1, str(strings.Repeat("'", own))))
		default:
			wantFault(t, s, 0)
			wantFault(t, "a "+s, 2)
		}
	}
}

// A quote that follows right behind a text goes on with it; behind a blank it begins the next one.
func TestStrsSideBySide(t *testing.T) {
	wantTokens(t, "'a''b'", str("a'b"))
	wantTokens(t, "'a' 'b'", str("a"), at(4, str("b")))
	wantTokens(t, "'a'\n'b'", str("a"), at(4, str("b")))
	wantTokens(t, "'a'+'b'", str("a"), at(3, sym("+")), at(4, str("b")))
	wantTokens(t, "'' ''", str(""), at(3, str("")))
	wantTokens(t, "'' '' ''", str(""), at(3, str("")), at(6, str("")))
	wantTokens(t, "''a''", str(""), at(2, name("a")), at(3, str("")))
	wantTokens(t, "''1''", str(""), at(2, number(1)), at(3, str("")))
	wantFault(t, "'a' 'b", 4)
	wantFault(t, "'a''b' '", 7)
	wantFault(t, "'a'!'b'", 3)
}
