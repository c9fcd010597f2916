package lex_test

import (
	"fmt"
	"math/big"
	"math/rand/v2"
	"slices"
	"strings"
	"testing"

	"tripwire/api"
	"tripwire/lex"
)

// What the tests here ask is held against a reading of the chapter's words that looks for each token among all
// pieces of the text that begin at a place.

// texts are all texts of at most size bytes, each of them one of letters.
func texts(letters string, size int) []string {
	l := []string{""}
	for from := 0; size > 0; size-- {
		to := len(l)
		for _, s := range l[from:to] {
			for i := range len(letters) {
				l = append(l, s+letters[i:i+1])
			}
		}
		from = to
	}
	return l
}

// only tells whether all bytes of a text are among those of another.
func only(s, of string) bool {
	for i := range len(s) {
		if strings.IndexByte(of, s[i]) < 0 {
			return false
		}
	}
	return true
}

// readRun reads a run; its size is 0, if it is none of the three.
func readRun(s string) (lex.Token, int) {
	n := 1
	for n < len(s) && only(s[:n+1], inRuns) {
		n++
	}
	switch s = s[:n]; {
	case only(s, capitals):
		return word(s), n
	case only(s, digits):
		v, _ := new(big.Int).SetString(s, 10)
		if v.IsInt64() {
			return number(int(v.Int64())), n
		}
	case only(s[:1], letters) && only(s, letters+digits+"_") && n <= 16:
		return name(s), n
	}
	return lex.Token{}, 0
}

// readStr looks for an end: a quote with none behind it, such that all quotes between stand twice.
func readStr(s string) (lex.Token, int) {
	for n := 2; n <= len(s); n++ {
		if s[n-1] != '\'' || n < len(s) && s[n] == '\'' {
			continue
		}
		within := s[1 : n-1]
		if strings.Contains(strings.ReplaceAll(within, "''", ""), "'") {
			continue
		}
		if own := strings.ReplaceAll(within, "''", "'"); len(own) <= 24 {
			return str(own), n
		}
		return lex.Token{}, 0
	}
	return lex.Token{}, 0
}

// read is the tokens of a text, or the place of the first that is none.
func read(s string) ([]lex.Token, int) {
	var l []lex.Token
	for i := 0; i < len(s); {
		if only(s[i:i+1], blanks) {
			i++
			continue
		}
		var t lex.Token
		size := 0
		switch c := s[i : i+1]; {
		case only(c, inRuns):
			t, size = readRun(s[i:])
		case c == "'":
			t, size = readStr(s[i:])
		case i+2 <= len(s) && slices.Contains([]string{"<>", "<=", ">="}, s[i:i+2]):
			t, size = sym(s[i:i+2]), 2
		case only(c, oneByte):
			t, size = sym(c), 1
		}
		if size == 0 {
			return nil, i
		}
		l = append(l, at(i, t))
		i += size
	}
	return append(l, lex.Token{At: len(s)}), -1
}

// placeless is the tokens without their places.
func placeless(l []lex.Token) []lex.Token {
	l = slices.Clone(l)
	for i := range l {
		l[i].At = 0
	}
	return l
}

// amiss tells what is wrong with the tokens of a text, or with those of their text; "" if nothing is.
func amiss(s string) string {
	got, x := lex.Tokens(s)
	want, wrong := read(s)
	if wrong >= 0 {
		if x != (api.Fault{Code: api.ErrSyntax, At: wrong}) || got != nil {
			return fmt.Sprintf("%q: %s, %v, not ErrSyntax at %d", s, told(got), x, wrong)
		}
		return ""
	}
	if x != (api.Fault{}) || !slices.Equal(got, want) {
		return fmt.Sprintf("%q: %s, %v, not %s", s, told(got), x, told(want))
	}
	text := lex.Text(got)
	again, x := lex.Tokens(text)
	switch {
	case x != (api.Fault{}) || !slices.Equal(placeless(again), placeless(got)):
		return fmt.Sprintf("%q is told as %q, which is %s, %v, not %s", s, text, told(again), x, told(got))
	case again[len(again)-1].At != len(text):
		return fmt.Sprintf("%q is told as %q, whose End is at %d", s, text, again[len(again)-1].At)
	case lex.Text(again) != text:
		return fmt.Sprintf("%q is told as %q, and then as %q", s, text, lex.Text(again))
	}
	return ""
}

func TestAgainOfAllShortTexts(t *testing.T) {
	for _, of := range []struct {
		letters string
		size    int
	}{
		{"aZ09_' \n<>=*!\xff", 5},
		{"a'< ", 8},
		{"aA0_ ", 7},
		{"<>= .", 7},
		{"' a", 11},
		{"'x", 14},
	} {
		for _, s := range texts(of.letters, of.size) {
			if d := amiss(s); d != "" {
				t.Fatal(d)
			}
		}
	}
}

func TestAgainOfAllBytes(t *testing.T) {
	for c := range 256 {
		for d := range 256 {
			for _, s := range []string{"a", "'", " "} {
				if d := amiss(string([]byte{byte(c), byte(d)}) + s); d != "" {
					t.Error(d)
				}
			}
		}
	}
}

// byChance is a text of pieces: tokens of all kinds, blanks, none, and now and then what is no token.
func byChance(r *rand.Rand, many, wrong int) string {
	var b strings.Builder
	good := pieces()
	bad := []string{"!", "'", "_", "aB", "9223372036854775808", "\x00", "\r", "\x80", "''", "A_", "1a", strings.Repeat("q", 17)}
	for range many {
		switch {
		case r.IntN(1000) < wrong:
			b.WriteString(bad[r.IntN(len(bad))])
		case r.IntN(3) == 0:
			b.WriteString(quotedByChance(r))
		default:
			b.WriteString(good[r.IntN(len(good))].s)
		}
		if r.IntN(8) > 0 {
			b.WriteString([]string{" ", "\t", "\n", "  ", " \n", ",", "<", "."}[r.IntN(8)])
		}
	}
	return b.String()
}

// quotedByChance is a text between quotes, of any bytes, seldom with too many of them.
func quotedByChance(r *rand.Rand) string {
	own := make([]byte, r.IntN(24)+r.IntN(60)/58*10)
	for i := range own {
		own[i] = "' ab1<\n\xe4"[r.IntN(8)]
		if r.IntN(4) == 0 {
			own[i] = byte(r.IntN(256))
		}
	}
	return "'" + strings.ReplaceAll(string(own), "'", "''") + "'"
}

func TestAgainOfTextsByChance(t *testing.T) {
	cut := 0
	for seed := range uint64(20000) {
		r := rand.New(rand.NewPCG(35, seed))
		s := byChance(r, 1+r.IntN(40), int(seed%4)*5)
		if d := amiss(s); d != "" {
			t.Fatal(d)
		}
		if _, x := lex.Tokens(s); x == (api.Fault{}) {
			cut++
		}
	}
	if cut < 2000 || cut > 18000 {
		t.Errorf("%d of 20000 texts are cut: too few or too many to tell anything", cut)
	}
}

func TestAgainOfBytesByChance(t *testing.T) {
	for seed := range uint64(30000) {
		r := rand.New(rand.NewPCG(12, seed))
		b := make([]byte, r.IntN(30))
		for i := range b {
			b[i] = (inRuns + oneByte + blanks + blanks + "''''''!\x00")[r.IntN(85)]
			if seed%3 == 0 && r.IntN(20) == 0 {
				b[i] = byte(r.IntN(256))
			}
		}
		if d := amiss(string(b)); d != "" {
			t.Fatal(d)
		}
	}
}

// Tokens that were put together by hand have a text that is cut into them, wherever they say that they stand.
func TestTextOfTokensIsCutIntoThem(t *testing.T) {
	all := pieces()
	for seed := range uint64(5000) {
		r := rand.New(rand.NewPCG(5, seed))
		var l []lex.Token
		for range r.IntN(30) {
			p := all[r.IntN(len(all))].t
			if r.IntN(4) == 0 {
				p = number(int(r.Uint64() >> (1 + r.IntN(63))))
			}
			l = append(l, at(r.IntN(100)-50, p))
		}
		want := append(placeless(l), lex.Token{})
		if r.IntN(2) == 0 {
			l = append(l, lex.Token{At: r.IntN(100)})
		}
		if again, x := lex.Tokens(lex.Text(l)); x != (api.Fault{}) || !slices.Equal(placeless(again), want) {
			t.Fatalf("%s is told as %q, which is %s, %v", told(l), lex.Text(l), told(again), x)
		}
	}
}
