package lex_test

import (
	"math/big"
	"strings"
	"testing"

	"tripwire/api"
	"tripwire/lex"
)

const (
	capitals = "ABCDEFGHIJKLMNOPQRSTUVWXYZ"
	letters  = "abcdefghijklmnopqrstuvwxyz"
	digits   = "0123456789"
	inRuns   = capitals + letters + digits + "_"
	blanks   = " \t\n"
	oneByte  = "<>=+-*(),.;"
)

func TestWordsOfAnyLength(t *testing.T) {
	for _, n := range []int{1, 2, 15, 16, 17, 24, 25, 100, 2000, 2001, 1 << 20} {
		for _, s := range []string{"A", "Z", "M"} {
			wantTokens(t, strings.Repeat(s, n), word(strings.Repeat(s, n)))
		}
	}
	wantTokens(t, capitals, word(capitals))
}

func TestNamesByLength(t *testing.T) {
	for n := 1; n <= 40; n++ {
		for _, s := range []string{"a", "z", "a0", "q_", "b9", "l_0"} {
			s = (s + strings.Repeat(s[len(s)-1:], n))[:n]
			if n <= 16 {
				wantTokens(t, s, name(s))
				wantTokens(t, " "+s+".", at(1, name(s)), at(1+n, sym(".")))
				continue
			}
			wantFault(t, s, 0)
			wantFault(t, "( "+s+" )", 2)
		}
	}
	wantFault(t, strings.Repeat("a", 16+256), 0)
	wantFault(t, strings.Repeat("a", 1<<16+1), 0)
}

func TestNumbers(t *testing.T) {
	for _, n := range []int{0, 1, 9, 10, 255, 256, 1<<31 - 1, 1 << 31, 1 << 32, 1 << 40, 1 << 62, 999999999999999999, 1000000000000000000, 1<<63 - 2, 1<<63 - 1} {
		s := big.NewInt(int64(n)).String()
		wantTokens(t, s, number(n))
		for _, noughts := range []int{1, 2, 18, 19, 20, 100, 100000} {
			wantTokens(t, strings.Repeat("0", noughts)+s, number(n))
		}
	}
	wantTokens(t, strings.Repeat("0", 1<<20), number(0))
}

func TestNumbersThatAreTooGreat(t *testing.T) {
	far := []string{"9223372036854775808", "9223372036854775809", "9223372036854775810", "9999999999999999999", "10000000000000000000", "18446744073709551615",
		"18446744073709551616", "18446744073709551617", "36893488147419103232", "92233720368547758070", strings.Repeat("9", 40), "1" + strings.Repeat("0", 1<<20)}
	for _, s := range far {
		wantFault(t, s, 0)
		wantFault(t, "000"+s, 0)
		wantFault(t, strings.Repeat("0", 1000)+s, 0)
		wantFault(t, "a = "+s+" 1", 4)
		wantFault(t, "-"+s, 1)
	}
}

// Each number about the edge is held against reckoning without a bound.
func TestNumbersAboutTheEdge(t *testing.T) {
	edge := new(big.Int).Lsh(big.NewInt(1), 63)
	for _, times := range []int64{1, 2, 3, 10} {
		for d := int64(-300); d <= 300; d++ {
			n := new(big.Int).Mul(edge, big.NewInt(times))
			n.Add(n, big.NewInt(d))
			if n.Cmp(edge) < 0 {
				wantTokens(t, n.String(), number(int(n.Int64())))
			} else {
				wantFault(t, n.String(), 0)
			}
		}
	}
}

func TestRunsThatAreNone(t *testing.T) {
	for _, s := range []string{
		"A1", "A_", "Aa", "AAa", "aA", "aAa", "SELECT_", "SELECT1", "Select", "sELECT", "selecT", "_SELECT", "1A", "12A",
		"1a", "12a", "0x1", "1e5", "1_000", "0b1", "0o7", "1_", "00_", "_", "__", "_1", "_a", "_A", "_0_", "a1A", "a_A", "a1_Z", "1aA", "A1a", "A_1", "9z",
	} {
		wantFault(t, s, 0)
		wantFault(t, " "+s, 1)
		wantFault(t, s+" ", 0)
		wantFault(t, "a "+s+" a", 2)
		wantFault(t, "x<"+s, 2)
		wantFault(t, s+"'x'", 0)
		wantFault(t, "'x'"+s, 3)
		wantFault(t, s+"!", 0)
		wantFault(t, s+"\xff", 0)
	}
}

// kindOf is what the chapter's words make of a run of three bytes or fewer.
func kindOf(s string) int {
	only := func(of string) bool { return strings.Trim(s, of) == "" }
	switch {
	case only(capitals):
		return lex.Word
	case only(digits):
		return lex.Number
	case only(letters+digits+"_") && strings.Contains(letters, s[:1]):
		return lex.Name
	}
	return lex.End
}

func TestRunsOfEachByte(t *testing.T) {
	for _, p := range inRuns {
		for _, q := range inRuns {
			for _, s := range []string{string(p), string([]rune{p, q}), string([]rune{p, q, q}), string([]rune{p, p, q})} {
				l, x := lex.Tokens(s)
				switch k := kindOf(s); {
				case k == lex.End:
					wantFault(t, s, 0)
				case x != (api.Fault{}) || len(l) != 2 || l[0].Kind != k || l[1] != lex.Token{At: len(s)}:
					t.Errorf("%q: %s, %v, not of kind %d", s, told(l), x, k)
				}
			}
		}
	}
}

// What stands beside a run is none of it: each other byte ends one, and decides for itself.
func TestEachByteBehindARun(t *testing.T) {
	runs := []piece{{"AB", word("AB")}, {"ab", name("ab")}, {"12", number(12)}}
	for c := range 256 {
		s := string([]byte{byte(c)})
		for _, p := range runs {
			switch {
			case strings.Contains(inRuns, s):
			case strings.Contains(blanks, s):
				wantTokens(t, p.s+s, p.t)
				wantTokens(t, p.s+s+p.s, p.t, at(3, p.t))
			case strings.Contains(oneByte, s):
				wantTokens(t, p.s+s, p.t, at(2, sym(s)))
				wantTokens(t, p.s+s+p.s, p.t, at(2, sym(s)), at(3, p.t))
			default:
				wantFault(t, p.s+s, 2)
				wantFault(t, p.s+s+p.s, 2)
			}
		}
	}
}
