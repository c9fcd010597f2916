package lex_test

import (
	"strings"
	"testing"

	"tripwire/lex"
)

func TestEachByteAlone(t *testing.T) {
	for c := range 256 {
		s := string([]byte{byte(c)})
		switch {
		case strings.Contains(blanks, s):
			wantTokens(t, s)
		case strings.Contains(capitals, s):
			wantTokens(t, s, word(s))
		case strings.Contains(letters, s):
			wantTokens(t, s, name(s))
		case strings.Contains(digits, s):
			wantTokens(t, s, number(c-'0'))
		case strings.Contains(oneByte, s):
			wantTokens(t, s, sym(s))
		default:
			wantFault(t, s, 0)
		}
	}
}

// Bytes that begin no token are told where they stand, and nothing that stands ahead of them.
func TestBytesThatBeginNone(t *testing.T) {
	for c := range 256 {
		s := string([]byte{byte(c)})
		if strings.Contains(blanks+inRuns+oneByte, s) || s == "'" {
			continue
		}
		for _, ahead := range []string{"", " ", "\t\n", "a", "A ", "12", "'x'", "<", ">=", "( ", "''''", "\n\n\n"} {
			wantFault(t, ahead+s, len(ahead))
			wantFault(t, ahead+s+s, len(ahead))
			wantFault(t, ahead+s+"=", len(ahead))
			wantFault(t, ahead+s+" a", len(ahead))
		}
	}
	wantFault(t, "a != b", 2)
	wantFault(t, "a\r\nb", 1)
	wantFault(t, "\xef\xbb\xbfSELECT", 0)
	wantFault(t, "a \xc3\xa4", 2)
	wantFault(t, "a\xc2\xa0b", 1)
	wantFault(t, "a -- b\x7f", 6)
	wantFault(t, "a/*b*/", 1)
	wantFault(t, "\"a\"", 0)
	wantFault(t, "1 % 2", 2)
	wantFault(t, "a\vb", 1)
	wantFault(t, "a\fb", 1)
}

// syms are tokens of these texts, one right behind the other.
func syms(l ...string) []lex.Token {
	var all []lex.Token
	place := 0
	for _, s := range l {
		all = append(all, at(place, sym(s)))
		place += len(s)
	}
	return all
}

func TestLongestSym(t *testing.T) {
	for _, l := range []string{
		"<", ">", "=", "<>", "<=", ">=", "< <", "< <>", "< <=", "<> <", "<= <", "= <", "= >", "= =", "> <", "> >", "> >=", "> <>", "> <=", ">= <", ">= >", ">= =",
		"<> >", "<> =", "<> >=", "<> <>", "<= >", "<= =", "<= >=", "<= <=", ">= >=", ">= <>", "= <>", "= >=", "= <=", "= = =", "= = = =",
		"< < <", "< < < <", "> > >", "> > > >=", "< < <>", "<> > >", "<> > >=", "<= = =", "<= >= <>", ">= = >", "= <> =", "= > <", "- -", "- - -", "* *", "+ +",
		", , ,", ". . .", "; ;", "( )", ") (", "( ( ) )", "- >=", "- >", "* )", "( *", "<> -", "- <>", "+ =", "- =", "* =", "= -", ". =", "; <=",
	} {
		parts := strings.Fields(l)
		wantTokens(t, strings.Join(parts, ""), syms(parts...)...)
	}
}

// All short texts of the bytes of which symbols are made: a symbol of two bytes, wherever one can be taken, else one byte.
func TestSymsFromTheLeft(t *testing.T) {
	for _, s := range texts(oneByte, 4) {
		var parts []string
		for rest := s; rest != ""; {
			size := 1
			if len(rest) > 1 && strings.Contains("<> <= >=", rest[:2]) {
				size = 2
			}
			parts, rest = append(parts, rest[:size]), rest[size:]
		}
		wantTokens(t, s, syms(parts...)...)
	}
}

// With a blank between, two bytes are two symbols.
func TestSymsApart(t *testing.T) {
	for _, p := range oneByte {
		for _, q := range oneByte {
			for _, blank := range []string{" ", "\t", "\n"} {
				wantTokens(t, string(p)+blank+string(q), sym(string(p)), at(2, sym(string(q))))
			}
		}
	}
}
