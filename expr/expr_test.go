package expr_test

import (
	"fmt"
	"math"
	"slices"
	"strings"
	"testing"

	"tripwire/api"
	"tripwire/ast"
	"tripwire/check"
	"tripwire/expr"
	"tripwire/parse"
	"tripwire/value"
)

func boolean(n int) api.Value { return api.Value{Kind: api.Bool, N: n} }

func number(n int) api.Value { return api.Value{Kind: api.Int, N: n} }

func text(s string) api.Value { return api.Value{Kind: api.Text, S: s} }

var (
	null = api.Value{}
	no   = boolean(0)
	yes  = boolean(1)
)

func val(v api.Value) check.Node { return check.Node{Op: "value", V: v} }

func column(v, c int) check.Node { return check.Node{Op: "column", Var: v, Col: c} }

func op(name string, kids ...check.Node) check.Node { return check.Node{Op: name, Kids: kids} }

func ones() []string { return []string{"neg", "not", "null"} }

func reckons() []string { return []string{"+", "-", "*"} }

func compares() []string { return []string{"=", "<>", "<", "<=", ">", ">="} }

func twos() []string { return slices.Concat(reckons(), compares(), []string{"and", "or"}) }

// short is how something is told in a message.
func short(x any) string {
	s := fmt.Sprintf("%+v", x)
	if len(s) <= 400 {
		return s
	}
	return s[:400] + ".. (long)"
}

// wantEval holds Eval against what is wanted, and Row and All of that node alone with it.
func wantEval(t *testing.T, n check.Node, rows [][]api.Value, want api.Value, code api.Errno) {
	t.Helper()
	if v, e := expr.Eval(n, rows); v != want || e != code {
		t.Errorf("%s over %s: %+v and %d, not %+v and %d", short(n), short(rows), v, e, want, code)
	}
	list := []api.Value{want}
	if code != api.OK {
		list = nil
	}
	wantRow(t, []check.Node{n}, rows, list, code)
	truth := api.Unknown
	if code == api.OK {
		truth, code = truthTold(want)
	}
	wantAll(t, []check.Node{n}, rows, code == api.OK && truth == api.True, code)
}

func wantRow(t *testing.T, l []check.Node, rows [][]api.Value, want []api.Value, code api.Errno) {
	t.Helper()
	got, e := expr.Row(l, rows)
	if !slices.Equal(got, want) || e != code || e != api.OK && got != nil {
		t.Errorf("the row of %s over %s: %s and %d, not %s and %d", short(l), short(rows), short(got), e, short(want), code)
	}
}

func wantAll(t *testing.T, l []check.Node, rows [][]api.Value, want bool, code api.Errno) {
	t.Helper()
	if got, e := expr.All(l, rows); got != want || e != code {
		t.Errorf("all of %s over %s: %v and %d, not %v and %d", short(l), short(rows), got, e, want, code)
	}
}

// someVars are x (a INT, b TEXT, c BOOL) and y (d INT, e TEXT, f BOOL, g INT).
func someVars() []check.Var {
	return []check.Var{
		{Name: "x", Cols: []api.Column{{Name: "a", Type: api.Int}, {Name: "b", Type: api.Text}, {Name: "c", Type: api.Bool}}},
		{Name: "y", Cols: []api.Column{{Name: "d", Type: api.Int}, {Name: "e", Type: api.Text}, {Name: "f", Type: api.Bool}, {Name: "g", Type: api.Int}}},
	}
}

// someRows fit someVars; of c, and of g, the value is NULL.
func someRows() [][]api.Value {
	return [][]api.Value{{number(7), text("x"), null}, {number(-3), text("it's"), yes, null}}
}

// node is what a text means over someVars.
func node(t *testing.T, s string) check.Node {
	t.Helper()
	e, x := parse.Expr(s)
	n, _, code := check.Expr(someVars(), e)
	if x != (api.Fault{}) || code != api.OK {
		t.Fatalf("%s: %v, %d", s, x, code)
	}
	return n
}

func TestByHand(t *testing.T) {
	for s, want := range map[string]string{
		"NULL": "NULL", "TRUE": "TRUE", "FALSE": "FALSE", "12": "12", "'s'": "'s'", "''": "''",
		"a": "7", "b": "'x'", "c": "NULL", "d": "-3", "e": "'it''s'", "f": "TRUE", "g": "NULL",
		"- a": "-7", "- d": "3", "- g": "NULL", "- NULL": "NULL", "- - a": "7", "- 0": "0",
		"NOT f": "FALSE", "NOT c": "NULL", "NOT FALSE": "TRUE", "NOT NOT f": "TRUE", "NOT NULL": "NULL",
		"c IS NULL": "TRUE", "a IS NULL": "FALSE", "b IS NULL": "FALSE", "f IS NULL": "FALSE", "NULL IS NULL": "TRUE", "(g + 1) IS NULL": "TRUE",
		"(a = g) IS NULL": "TRUE", "FALSE IS NULL": "FALSE", "0 IS NULL": "FALSE", "'' IS NULL": "FALSE", "c IS NOT NULL": "FALSE", "a IS NOT NULL": "TRUE",
		"a + 1": "8", "a - 10": "-3", "a * d": "-21", "a + d": "4", "d - a": "-10", "b + e": "'xit''s'", "e + b": "'it''sx'", "'' + b": "'x'", "'' + ''": "''",
		"a + g": "NULL", "g - a": "NULL", "a * NULL": "NULL", "b + NULL": "NULL", "NULL + NULL": "NULL",
		"a - 1 - 2": "4", "a - (1 - 2)": "8", "a + d * 2": "1", "(a + d) * 2": "8",
		"a = 7": "TRUE", "a <> 7": "FALSE", "a < 7": "FALSE", "a <= 7": "TRUE", "a > 7": "FALSE", "a >= 7": "TRUE",
		"a = d": "FALSE", "a <> d": "TRUE", "a < d": "FALSE", "a <= d": "FALSE", "a > d": "TRUE", "a >= d": "TRUE",
		"d = a": "FALSE", "d <> a": "TRUE", "d < a": "TRUE", "d <= a": "TRUE", "d > a": "FALSE", "d >= a": "FALSE",
		"b < e": "FALSE", "e < b": "TRUE", "b = 'x'": "TRUE", "'' < b": "TRUE", "'10' < '9'": "TRUE", "FALSE < f": "TRUE", "f = TRUE": "TRUE", "f > f": "FALSE",
		"a = g": "NULL", "g <> g": "NULL", "NULL = NULL": "NULL", "c >= TRUE": "NULL", "b < NULL": "NULL",
		"f AND f": "TRUE", "f AND c": "NULL", "c AND f": "NULL", "c AND FALSE": "FALSE", "FALSE AND c": "FALSE", "c AND c": "NULL",
		"f OR c": "TRUE", "c OR f": "TRUE", "c OR FALSE": "NULL", "FALSE OR c": "NULL", "FALSE OR FALSE": "FALSE", "c OR c": "NULL",
		"a = 7 AND b < 'y'": "TRUE", "a = 2 AND d * d > 5": "FALSE", "a = 7 AND d * d > 5": "TRUE", "NOT (a = 7 AND c)": "NULL",
		"a = 8 AND a * 9223372036854775807 = 1": "FALSE", "a = 7 OR a * 9223372036854775807 = 1": "TRUE",
		"b = 'y' AND b + 'aaaaaaaaaaaaaaaaaaaaaaaa' = 'a'": "FALSE",
	} {
		v, e := expr.Eval(node(t, s), someRows())
		if e != api.OK || value.Show(v) != want || !value.Right(v) {
			t.Errorf("%s is %s and %d, not %s", s, value.Show(v), e, want)
		}
		wantEval(t, node(t, s), someRows(), v, api.OK)
	}
}

func TestErrorsByHand(t *testing.T) {
	for s, code := range map[string]api.Errno{
		"a * 9223372036854775807": api.ErrRange, "9223372036854775807 + a": api.ErrRange, "d - 9223372036854775807": api.ErrRange,
		"b + 'aaaaaaaaaaaaaaaaaaaaaaaa'": api.ErrLong, "'aaaaaaaaaaaaaaaaaaaaaaaa' + b": api.ErrLong,
		"(a * 9223372036854775807) IS NULL": api.ErrRange, "NOT a * 9223372036854775807 = 1": api.ErrRange, "- (a * 9223372036854775807)": api.ErrRange,
		"a = 7 AND a * 9223372036854775807 = 1": api.ErrRange, "c AND a * 9223372036854775807 = 1": api.ErrRange, "c OR a * 9223372036854775807 = 1": api.ErrRange,
		"a * 9223372036854775807 = 1 AND FALSE": api.ErrRange, "a * 9223372036854775807 = 1 OR TRUE": api.ErrRange,
		"g + a * 9223372036854775807": api.ErrRange, "a * 9223372036854775807 = NULL": api.ErrRange, "NULL = a * 9223372036854775807": api.ErrRange,
		"b + 'aaaaaaaaaaaaaaaaaaaaaaaa' = 'b' AND a * 9223372036854775807 = 1": api.ErrLong,
		"a * 9223372036854775807 = 1 AND b + 'aaaaaaaaaaaaaaaaaaaaaaaa' = 'b'": api.ErrRange,
	} {
		wantEval(t, node(t, s), someRows(), null, code)
	}
}

// The example of the chapter: where a is 2 b isn't looked at, not even whether it is there.
func TestTheExample(t *testing.T) {
	n := op("and", op("=", column(0, 0), val(number(1))), op(">", op("*", column(0, 1), column(0, 1)), val(number(5))))
	wantEval(t, n, [][]api.Value{{number(2), number(math.MaxInt)}}, no, api.OK)
	wantEval(t, n, [][]api.Value{{number(2)}}, no, api.OK)
	wantEval(t, n, [][]api.Value{{number(1), number(3)}}, yes, api.OK)
	wantEval(t, n, [][]api.Value{{number(1), number(2)}}, no, api.OK)
	wantEval(t, n, [][]api.Value{{number(1), null}}, null, api.OK)
	wantEval(t, n, [][]api.Value{{number(1), number(math.MaxInt)}}, null, api.ErrRange)
	wantEval(t, n, [][]api.Value{{null, number(math.MaxInt)}}, null, api.ErrRange)
	wantEval(t, n, [][]api.Value{{number(1)}}, null, api.ErrArg)
}

func TestNumbersAtTheEdges(t *testing.T) {
	least, most := math.MinInt, math.MaxInt
	for _, x := range []struct {
		op   string
		m, n int
		want int
		code api.Errno
	}{
		{"+", most, 0, most, 0}, {"+", most, 1, 0, api.ErrRange}, {"+", 1, most, 0, api.ErrRange}, {"+", most - 1, 1, most, 0},
		{"+", least, 0, least, 0}, {"+", least, -1, 0, api.ErrRange}, {"+", least, most, -1, 0}, {"+", least, least, 0, api.ErrRange},
		{"-", least, 1, 0, api.ErrRange}, {"-", least + 1, 1, least, 0}, {"-", 0, least, 0, api.ErrRange}, {"-", -1, least, most, 0},
		{"-", most, -1, 0, api.ErrRange}, {"-", most, most, 0, 0}, {"-", -1, most, least, 0}, {"-", -2, most, 0, api.ErrRange},
		{"*", most, 1, most, 0}, {"*", most, -1, -most, 0}, {"*", most, 2, 0, api.ErrRange}, {"*", least, -1, 0, api.ErrRange},
		{"*", -1, least, 0, api.ErrRange}, {"*", least, 1, least, 0}, {"*", least, 0, 0, 0}, {"*", 1 << 62, -2, least, 0}, {"*", 1 << 62, 2, 0, api.ErrRange},
		{"*", 3037000499, 3037000499, 9223372030926249001, 0}, {"*", 3037000500, 3037000500, 0, api.ErrRange},
	} {
		want := number(x.want)
		if x.code != api.OK {
			want = null
		}
		rows := [][]api.Value{{number(x.m)}, {number(x.n)}}
		wantEval(t, op(x.op, val(number(x.m)), val(number(x.n))), nil, want, x.code)
		wantEval(t, op(x.op, column(0, 0), column(1, 0)), rows, want, x.code)
	}
	for n, want := range map[int]int{0: 0, 1: -1, -1: 1, most: -most, -most: most, 1 << 40: -1 << 40} {
		wantEval(t, op("neg", val(number(n))), nil, number(want), api.OK)
	}
	wantEval(t, op("neg", val(number(least))), nil, null, api.ErrRange)
	wantEval(t, op("neg", op("neg", val(number(most)))), nil, number(most), api.OK)
}

func TestSumsOfTexts(t *testing.T) {
	for m := range api.MaxText + 1 {
		for n := range api.MaxText + 1 {
			a, b := strings.Repeat("a", m), strings.Repeat("\xff", n)
			want, code := text(a+b), api.OK
			if m+n > 24 {
				want, code = null, api.ErrLong
			}
			wantEval(t, op("+", val(text(a)), val(text(b))), nil, want, code)
		}
	}
	full := strings.Repeat("z", 24)
	wantEval(t, op("+", op("+", val(text(full[:10])), val(text(full[:10]))), val(text(full[:4]))), nil, text(full), api.OK)
	wantEval(t, op("+", op("+", val(text(full[:10])), val(text(full[:10]))), val(text(full[:5]))), nil, null, api.ErrLong)
	wantEval(t, op("+", val(text(full[:10])), op("+", val(text(full[:10])), val(text(full[:5])))), nil, null, api.ErrLong)
	wantEval(t, op("+", val(null), val(text(full))), nil, null, api.OK)
	wantEval(t, op("-", val(text("a")), val(text("a"))), nil, null, api.ErrType)
	wantEval(t, op("*", val(text("a")), val(text("a"))), nil, null, api.ErrType)
}

// rising is right values by their order.
func rising() []api.Value {
	return []api.Value{
		null, no, yes, number(math.MinInt), number(-2), number(0), number(1), number(math.MaxInt),
		text(""), text("\x00"), text("1"), text("TRUE"), text("a"), text("ab"), text(strings.Repeat("\xff", api.MaxText)),
	}
}

// wrong is values that aren't right.
func wrong() []api.Value {
	return []api.Value{
		{N: 1}, {S: "a"}, {Kind: api.Bool, N: 2}, {Kind: api.Bool, N: -1}, {Kind: api.Bool, N: math.MaxInt}, {Kind: api.Bool, S: "a"},
		{Kind: api.Bool, N: 1, S: "a"}, {Kind: api.Int, N: 7, S: "7"},
		{Kind: api.Text, N: 1}, {Kind: api.Text, S: strings.Repeat("x", api.MaxText+1)}, {Kind: -1}, {Kind: 4}, {Kind: math.MaxInt, N: 1, S: "a"},
	}
}

// A value is itself, right or not; so is a column's.
func TestLeaves(t *testing.T) {
	all := slices.Concat(rising(), wrong())
	for i, v := range all {
		wantEval(t, val(v), nil, v, api.OK)
		wantEval(t, column(0, i), [][]api.Value{all}, v, api.OK)
		wantEval(t, column(2, 1), [][]api.Value{nil, {null}, {yes, v}, {no, no}}, v, api.OK)
		n := val(v)
		n.Var, n.Col = -1, 99 // a value has no use for them, nor a column for V
		wantEval(t, n, nil, v, api.OK)
		n = column(0, i)
		n.V = text("other")
		wantEval(t, n, [][]api.Value{all}, v, api.OK)
	}
}

func TestOneKid(t *testing.T) {
	for _, v := range rising() {
		want, code := null, api.OK
		switch v.Kind {
		case api.Bool, api.Text:
			code = api.ErrType
		case api.Int:
			if want = number(-v.N); v.N == math.MinInt {
				want, code = null, api.ErrRange
			}
		}
		wantEval(t, op("neg", val(v)), nil, want, code)
		want, code = null, api.OK
		switch v.Kind {
		case api.Bool:
			want = boolean(1 - v.N)
		case api.Int, api.Text:
			code = api.ErrType
		}
		wantEval(t, op("not", val(v)), nil, want, code)
		want = no
		if v == null {
			want = yes
		}
		wantEval(t, op("null", val(v)), nil, want, api.OK)
		wantEval(t, op("null", column(0, 0)), [][]api.Value{{v}}, want, api.OK)
	}
}

func TestComparisonsOfKinds(t *testing.T) {
	holds := map[string][3]int{"=": {0, 1, 0}, "<>": {1, 0, 1}, "<": {1, 0, 0}, "<=": {1, 1, 0}, ">": {0, 0, 1}, ">=": {0, 1, 1}}
	for name, truths := range holds {
		for i, a := range rising() {
			for k, b := range rising() {
				want, code := boolean(truths[max(-1, min(1, i-k))+1]), api.OK
				switch {
				case a == null || b == null:
					want = null
				case a.Kind != b.Kind:
					want, code = null, api.ErrType
				}
				wantEval(t, op(name, val(a), val(b)), nil, want, code)
			}
		}
	}
}

func TestReckonedKinds(t *testing.T) {
	for _, name := range reckons() {
		for _, a := range rising() {
			for _, b := range rising() {
				want, code := value.Reckon(name, a, b)
				switch {
				case a == null || b == null:
					want, code = null, api.OK
				case a.Kind != b.Kind || a.Kind == api.Bool || a.Kind == api.Text && name != "+":
					want, code = null, api.ErrType
				}
				wantEval(t, op(name, val(a), val(b)), nil, want, code)
			}
		}
	}
}

// What isn't right can't be reckoned or compared, whatever the other one is; a truth it may have all the same.
func TestWrongValues(t *testing.T) {
	for _, a := range wrong() {
		wantEval(t, op("neg", val(a)), nil, null, api.ErrArg)
		wantEval(t, op("null", val(a)), nil, no, api.OK)
		for _, b := range slices.Concat(rising(), wrong()) {
			for _, name := range slices.Concat(reckons(), compares()) {
				wantEval(t, op(name, val(a), val(b)), nil, null, api.ErrArg)
				wantEval(t, op(name, val(b), val(a)), nil, null, api.ErrArg)
			}
		}
		truth, code := truthTold(a)
		want := []api.Value{yes, no, null}[truth]
		if code != api.OK {
			want = null
		}
		wantEval(t, op("not", val(a)), nil, want, code)
	}
	wantEval(t, op("not", val(api.Value{Kind: api.Bool, N: 2})), nil, null, api.OK)
	wantEval(t, op("and", val(yes), val(api.Value{Kind: api.Bool, N: 2})), nil, null, api.OK)
	wantEval(t, op("or", val(api.Value{Kind: 4}), val(yes)), nil, null, api.ErrType)
}

// A rule's variables stand by their numbers, in whatever order their rows are named.
func TestColumnsOfSeveralRows(t *testing.T) {
	rows := [][]api.Value{{number(1), number(2), number(3)}, {number(10)}, {number(100), number(200)}}
	n := op("-", op("-", column(2, 1), column(0, 2)), op("*", column(1, 0), column(0, 1)))
	wantEval(t, n, rows, number(200-3-20), api.OK)
	for v, row := range rows {
		for c := range row {
			wantEval(t, column(v, c), rows, row[c], api.OK)
		}
	}
	wantEval(t, node(t, "x.a + y.d * 2"), someRows(), number(1), api.OK)
	n, _, code := check.Expr(someVars(), ast.Expr{Op: "column", Var: "y", Col: "e"})
	if code != api.OK {
		t.Fatal(code)
	}
	wantEval(t, n, someRows(), text("it's"), api.OK)
}
