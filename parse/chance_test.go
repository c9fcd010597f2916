package parse_test

import (
	"math"
	"math/rand/v2"
	"slices"
	"strings"
	"testing"

	"tripwire/api"
	"tripwire/ast"
	"tripwire/lex"
	"tripwire/parse"
)

func pick[T any](r *rand.Rand, l ...T) T { return l[r.IntN(len(l))] }

func many[T any](n int, f func(int) T) []T {
	var l []T
	for i := range n {
		l = append(l, f(i))
	}
	return l
}

func aNameByChance(r *rand.Rand) string {
	return pick(r, "a", "b", "t", "ab", "a_1", "abcdefghijklmnop", "select", "null")
}

func maybeAName(r *rand.Rand) string { return pick(r, "", "", aNameByChance(r)) }

func valueByChance(r *rand.Rand) api.Value {
	return pick(r, api.Value{}, api.Value{Kind: 1}, api.Value{Kind: 1, N: 1}, api.Value{Kind: 2, N: r.IntN(12)}, api.Value{Kind: 2, N: math.MaxInt},
		api.Value{Kind: 3, S: pick(r, "", "a", "'", "''", "a'b", "NULL", "1", "a, b", ") FROM t", "\x00\xff\n", strings.Repeat("'", 24))})
}

// exprByChance has at most depth expressions within one another.
func exprByChance(r *rand.Rand, depth int) ast.Expr {
	switch n := r.IntN(6); {
	case depth == 1 || n == 0:
		if r.IntN(2) == 0 {
			return val(valueByChance(r))
		}
		return dot(maybeAName(r), aNameByChance(r))
	case n < 3:
		return op(pick(r, "neg", "not", "null"), exprByChance(r, depth-1))
	}
	name := pick(r, "+", "-", "*", "=", "<>", "<", "<=", ">", ">=", "and", "or")
	if r.IntN(2) == 0 { // deep on one side alone, so that it doesn't grow too great
		return op(name, exprByChance(r, depth-1), exprByChance(r, min(depth-1, 2)))
	}
	return op(name, exprByChance(r, min(depth-1, 2)), exprByChance(r, depth-1))
}

func exprsByChance(r *rand.Rand, n int) []ast.Expr {
	return many(n, func(int) ast.Expr { return exprByChance(r, pick(r, 1, 2, 4, 20)) })
}

func sourcesByChance(r *rand.Rand, n int) []ast.Source {
	return many(n, func(int) ast.Source {
		if r.IntN(2) == 0 {
			return ast.Source{Table: aNameByChance(r), Var: maybeAName(r)}
		}
		return ast.Source{Kind: 1 + r.IntN(4), Var: maybeAName(r)}
	})
}

func colsByChance(r *rand.Rand) []api.Column {
	return many(1+r.IntN(6), func(i int) api.Column {
		return api.Column{Name: "abcdef"[i:i+1] + pick(r, "", "1", "_x"), Type: 1 + r.IntN(3), NotNull: r.IntN(2) == 0, Unique: r.IntN(2) == 0}
	})
}

func ruleByChance(r *rand.Rand) ast.Stmt {
	s := ast.Stmt{Kind: 8, Name: aNameByChance(r), Priority: pick(r, 0, 1, 10, 999, r.IntN(1000)), Event: 1 + r.IntN(3), Table: aNameByChance(r), Deferred: r.IntN(2) == 0}
	if s.From = sourcesByChance(r, r.IntN(4)); len(s.From) > 0 {
		s.Where = exprsByChance(r, r.IntN(2))
	}
	if s.Rolls = r.IntN(4) == 0; !s.Rolls {
		s.Acts = many(1+r.IntN(4), func(int) ast.Stmt { return stmtByChance(r, 12+r.IntN(3)) })
	}
	return s
}

// stmtByChance is a right statement of a Kind.
func stmtByChance(r *rand.Rand, kind int) ast.Stmt {
	s := ast.Stmt{Kind: kind}
	switch kind {
	case 4, 5, 9, 10, 11:
		s.Name = aNameByChance(r)
	case 6:
		s.Name, s.Cols = aNameByChance(r), colsByChance(r)
	case 7:
		s.Name, s.Table, s.Col = aNameByChance(r), aNameByChance(r), aNameByChance(r)
	case 8:
		return ruleByChance(r)
	case 12:
		if s.Table = aNameByChance(r); r.IntN(2) == 0 {
			s.Values = exprsByChance(r, 1+r.IntN(6))
			return s
		}
	case 13:
		s.Table, s.Where = aNameByChance(r), exprsByChance(r, r.IntN(2))
		s.Sets = many(1+r.IntN(6), func(int) ast.Set { return ast.Set{Col: aNameByChance(r), E: exprByChance(r, 3)} })
	case 14:
		s.Table, s.Where = aNameByChance(r), exprsByChance(r, r.IntN(2))
	}
	if kind == 12 || kind == 15 {
		s.Items, s.From, s.Where = exprsByChance(r, pick(r, 0, 1, 2, 3, r.IntN(41))), sourcesByChance(r, 1+r.IntN(3)), exprsByChance(r, r.IntN(2))
	}
	return s
}

func byChance(seed uint64) ast.Stmt {
	return stmtByChance(rand.New(rand.NewPCG(41, seed)), 1+int(seed%15))
}

// The text of a right statement is read as that, if it has at most 2000 bytes; so is that of a right expression.
func TestTextsOfStatementsByChance(t *testing.T) {
	t.Parallel()
	read := [16]int{}
	for seed := range uint64(15000) {
		s := byChance(seed)
		text := ast.Show(s)
		if len(text) > 2000 {
			wantLong(t, text)
			continue
		}
		wantStmt(t, text, s)
		read[s.Kind]++
	}
	for kind, n := range read[1:] {
		if n < 250 {
			t.Errorf("%d of the Kind %d", n, kind+1)
		}
	}
	for seed := range uint64(15000) {
		e := exprByChance(rand.New(rand.NewPCG(14, seed)), 1+int(seed%20))
		if text := ast.ShowExpr(e); len(text) <= 2000 {
			wantExpr(t, text, e)
		}
	}
}

// derive is the tokens of a way through the grammar that chance takes; the less is left, the sooner it comes to an end.
func (p part) derive(r *rand.Rand, left *int) []string {
	var l []string
	*left--
	switch rule, ok := rules[p.text]; {
	case p.kind == '|':
		which := r.IntN(len(p.parts))
		if *left < 0 && len(p.parts) < 7 && len(p.parts[len(p.parts)-1].parts) == 1 {
			which = len(p.parts) - 1
		}
		return p.parts[which].derive(r, left)
	case p.kind == '&':
		for _, q := range p.parts {
			l = append(l, q.derive(r, left)...)
		}
	case p.kind == '[' || p.kind == '{':
		for again := true; again && *left > 0 && r.IntN(3) == 0; again = p.kind == '{' {
			l = append(l, p.parts[0].derive(r, left)...)
		}
	case p.text == "atom" && *left < 0:
		return []string{pick(r, "a", "1", "NULL", "TRUE", "FALSE", "''")}
	case ok:
		return rule.derive(r, left)
	default:
		return []string{tokenByChance(r, p.text)}
	}
	return l
}

// tokenByChance is one of those that a text of the grammar stands for.
func tokenByChance(r *rand.Rand, text string) string {
	switch text {
	case "name":
		return pick(r, "a", "b", "c", "t", "u", "x", "ab_9", "abcdefghijklmnop")
	case "number":
		return pick(r, "0", "1", "2", "42", "007", "999", "1000", "9223372036854775807")
	case "str":
		return pick(r, "''", "'a'", "'it''s'", "'AND'", "'('", "'   '")
	}
	return text
}

// blanksBetween is tokens with blanks between, of all kinds, and none where none must be.
func blanksBetween(r *rand.Rand, l []string) string {
	var b strings.Builder
	for i, s := range l {
		if i > 0 && (r.IntN(3) > 0 || grownTogether(l[i-1], s)) {
			b.WriteString(pick(r, " ", "\n", "\t", "  ", " \n\t"))
		}
		b.WriteString(s)
	}
	return pick(r, "", "", " ", "\n") + b.String() + pick(r, "", "", " ", "\t\n")
}

// grownTogether tells whether two tokens become others without a blank between.
func grownTogether(a, b string) bool {
	one, _ := lex.Tokens(a)
	two, _ := lex.Tokens(b)
	both, _ := lex.Tokens(a + b)
	return len(both) != 3 || both[0].S != one[0].S || both[1].S != two[0].S || both[1].N != two[0].N
}

func derivedByChance(r *rand.Rand) []string {
	left := pick(r, 20, 60, 200, 600)
	return rules[pick(r, "stmt", "stmt", "act", "select", "or")].derive(r, &left)
}

func TestWaysThroughTheGrammarByChance(t *testing.T) {
	t.Parallel()
	read, tooMuch := 0, 0
	for seed := range uint64(8000) {
		r := rand.New(rand.NewPCG(seed, 1))
		text := blanksBetween(r, derivedByChance(r))
		wantAsTold(t, text)
		_, x := parse.Parse(text)
		_, y := parse.Expr(text)
		switch {
		case x.Code == api.OK || y.Code == api.OK:
			read++
		case x.Code == api.ErrLong || y.Code == api.ErrLong:
			tooMuch++
		default:
			t.Errorf("%q is no way through the grammar: %v, %v", text, x, y)
		}
	}
	if read < 4000 || tooMuch < 100 {
		t.Errorf("%d are read, %d are too much: too few to tell anything", read, tooMuch)
	}
}

// kind is that of the only token of a text.
func kind(s string) int {
	l, _ := lex.Tokens(s)
	return l[0].Kind
}

// altered is tokens with a few of them changed, left out, doubled or swapped.
func altered(r *rand.Rand, l, others []string) []string {
	l = slices.Clone(l)
	for range 1 + r.IntN(3) {
		if len(l) == 0 {
			return others[:r.IntN(len(others))]
		}
		at := r.IntN(len(l))
		switch r.IntN(9) {
		case 0:
			l = slices.Delete(l, at, at+1)
		case 1:
			l = slices.Insert(l, at, pick(r, others...))
		case 2:
			l = slices.Insert(l, at, l[r.IntN(len(l))])
		case 3:
			to := r.IntN(len(l))
			l[at], l[to] = l[to], l[at]
		case 4:
			l = l[:at]
		case 5:
			l[at] = pick(r, others...)
		default: // another one of its kind: it is often read still
			l[at] = pick(r, slices.DeleteFunc(slices.Clone(others), func(s string) bool { return kind(s) != kind(l[at]) })...)
		}
	}
	return l
}

func TestAlteredTextsByChance(t *testing.T) {
	t.Parallel()
	others := alphabet()
	read, refused := 0, 0
	for seed := range uint64(10000) {
		r := rand.New(rand.NewPCG(seed, 2))
		text := blanksBetween(r, altered(r, derivedByChance(r), others))
		wantAsTold(t, text)
		if _, x := parse.Parse(text); x == (api.Fault{}) {
			read++
		} else {
			refused++
		}
	}
	if read < 500 || refused < 2500 {
		t.Errorf("%d are read, %d are refused: too few to tell anything", read, refused)
	}
}

// wantAgain asks that what is read has a text that is read as the same; it may have become too long.
func wantAgain(t *testing.T, text string) (read bool) {
	t.Helper()
	s, x := parse.Parse(text)
	if x != (api.Fault{}) {
		return false
	}
	again := ast.Show(s)
	if again == "" {
		t.Errorf("%q is read as what has no text", short(text))
	} else if len(again) > 2000 {
		wantLong(t, again)
	} else {
		wantStmt(t, again, s)
	}
	return true
}

func TestWhatIsReadIsReadAgain(t *testing.T) {
	t.Parallel()
	others := alphabet()
	read := 0
	for seed := range uint64(25000) {
		r := rand.New(rand.NewPCG(seed, 3))
		l := derivedByChance(r)
		if seed%2 == 0 {
			l = altered(r, l, others)
		}
		if wantAgain(t, blanksBetween(r, l)) {
			read++
		}
	}
	if read < 5000 {
		t.Errorf("%d are read: too few to tell anything", read)
	}
}

// What is read may have a text that is too long.
func TestWhatIsReadMayBeTooLongToldAgain(t *testing.T) {
	text := "SELECT " + several(40, "a"+strings.Repeat("+a", 19), ",") + " FROM t"
	s, x := parse.Parse(text)
	if x != (api.Fault{}) || len(ast.Show(s)) <= 2000 {
		t.Fatalf("%v, %d bytes", x, len(ast.Show(s)))
	}
	wantAgain(t, text)
}

// Blanks around tokens change nothing but places.
func TestBlanks(t *testing.T) {
	t.Parallel()
	others := alphabet()
	for seed := range uint64(10000) {
		r := rand.New(rand.NewPCG(seed, 4))
		l := derivedByChance(r)
		if seed%2 == 0 {
			l = altered(r, l, others)
		}
		a, b := blanksBetween(r, l), blanksBetween(r, l)
		if len(a) > 2000 || len(b) > 2000 {
			continue
		}
		s, x := parse.Parse(a)
		want, y := parse.Parse(b)
		if !same(s, want) || x.Code != y.Code || numberOf(t, a, x) != numberOf(t, b, y) {
			t.Errorf("%q is read as %s, %v, %q as %s, %v", a, short(s), x, b, short(want), y)
		}
	}
}

// numberOf is the number of the token at which a fault is told.
func numberOf(t *testing.T, text string, x api.Fault) int {
	t.Helper()
	if x.Code != api.ErrSyntax {
		return -1 - x.At
	}
	l, _ := lex.Tokens(text)
	at := slices.IndexFunc(l, func(k lex.Token) bool { return k.At == x.At })
	if at < 0 {
		t.Errorf("%q: no token stands at %d", text, x.At)
	}
	return at
}

// Behind the place at which a text can't go on all is one, as long as it is made of tokens.
func TestWhatStandsBehindThePlace(t *testing.T) {
	t.Parallel()
	others := alphabet()
	for seed := range uint64(10000) {
		r := rand.New(rand.NewPCG(seed, 5))
		text := strings.Join(altered(r, derivedByChance(r), others), " ")
		_, x := parse.Parse(text)
		if x.Code != api.ErrSyntax || x.At == len(text) {
			continue
		}
		for range 3 {
			first, _, _ := strings.Cut(text[x.At:], " ")
			if strings.HasPrefix(first, "'") {
				first = "''"
			}
			behind := many(r.IntN(20), func(int) string { return pick(r, others...) })
			wantFault(t, text[:x.At]+strings.Join(append([]string{first}, behind...), " "), x)
		}
	}
}

// Tokens by chance, and bytes.
func TestTokensByChance(t *testing.T) {
	t.Parallel()
	others := alphabet()
	for seed := range uint64(10000) {
		r := rand.New(rand.NewPCG(seed, 6))
		l := many(r.IntN(12), func(int) string { return pick(r, others...) })
		wantAsTold(t, blanksBetween(r, l))
	}
	for seed := range uint64(10000) {
		r := rand.New(rand.NewPCG(seed, 7))
		b := []byte(blanksBetween(r, derivedByChance(r)))
		for range 1 + r.IntN(3) {
			if len(b) > 0 {
				b[r.IntN(len(b))] = byte(pick(r, r.IntN(256), ' ', '\'', 'a', 'A', '1', '(', '-'))
			}
		}
		wantAsTold(t, string(b))
	}
}
