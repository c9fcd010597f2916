package lex_test

import (
	"slices"
	"strings"
	"testing"
	"unsafe"

	"tripwire/api"
	"tripwire/lex"
)

// many is a text with tokens of all kinds.
func many() string {
	var l []string
	for _, p := range pieces() {
		l = append(l, p.s)
	}
	return strings.Join(l, " ")
}

// spoil writes over tokens and the room behind them.
func spoil(l []lex.Token) {
	l = l[:cap(l)]
	for i := range l {
		l[i] = lex.Token{Kind: -9, N: -9, At: -9, S: "spoilt"}
	}
}

// Who keeps a token keeps nothing of the text: its bytes may become others behind the call.
func TestTokensKeepNothingOfTheText(t *testing.T) {
	b := []byte(many())
	want, _ := lex.Tokens(many())
	got, x := lex.Tokens(unsafe.String(&b[0], len(b)))
	for i := range b {
		b[i] = '#'
	}
	if x != (api.Fault{}) || !slices.Equal(got, want) {
		t.Errorf("%s, %v, not %s", told(got), x, told(want))
	}
}

func TestAnswersMayBeWrittenOver(t *testing.T) {
	for _, s := range []string{"", " ", "a", many()} {
		want, _ := read(s)
		for range 3 {
			got, x := lex.Tokens(s)
			if x != (api.Fault{}) || !slices.Equal(got, want) {
				t.Fatalf("%q: %s, %v, not %s", s, told(got), x, told(want))
			}
			other, _ := lex.Tokens(s)
			spoil(got)
			_ = append(got[:0], number(1), number(2))
			if !slices.Equal(other, want) {
				t.Fatalf("%q: two answers share memory", s)
			}
			spoil(other)
		}
	}
}

func TestTextWritesIntoNothing(t *testing.T) {
	for _, s := range []string{"", "a", many()} {
		l, _ := lex.Tokens(s)
		l = append(l, lex.Token{Kind: 9, S: "room"}, number(5), str("room"))
		was := slices.Clone(l)
		for n := range len(l) + 1 {
			first := lex.Text(l[:n])
			if second := lex.Text(l[:n]); first != second {
				t.Errorf("%q, then %q", first, second)
			}
			if !slices.Equal(l, was) {
				t.Fatalf("Text of %s wrote into it: %s", told(was[:n]), told(l))
			}
		}
	}
}

func TestATextStaysBehindItsTokens(t *testing.T) {
	l, _ := lex.Tokens(many())
	got := lex.Text(l)
	want := strings.Clone(got)
	spoil(l)
	if got != want {
		t.Errorf("%q, not %q", got, want)
	}
}
