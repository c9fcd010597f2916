package value_test

import (
	"math"
	"math/big"
	"strconv"
	"strings"
	"testing"

	"tripwire/api"
	"tripwire/value"
)

func boolean(n int) api.Value { return api.Value{Kind: api.Bool, N: n} }

func number(n int) api.Value { return api.Value{Kind: api.Int, N: n} }

func text(s string) api.Value { return api.Value{Kind: api.Text, S: s} }

var (
	null = api.Value{}
	no   = boolean(0)
	yes  = boolean(1)
)

// rising lists right values of all kinds by their order, as the chapter tells it.
func rising() []api.Value {
	full := strings.Repeat("z", api.MaxText)
	return []api.Value{
		null, no, yes,
		number(math.MinInt), number(math.MinInt + 1), number(-1 << 32), number(-257), number(-2), number(-1),
		number(0), number(1), number(2), number(9), number(10), number(255), number(256), number(1 << 32),
		number(math.MaxInt - 1), number(math.MaxInt),
		text(""), text("\x00"), text("\x00\x00"), text("\x00\x01"), text(" "), text("'"), text("''"), text("0"),
		text("10"), text("9"), text("A"), text("a"), text("a\x00"), text("aa"), text("ab"), text("b"),
		text(full[1:]), text(full), text("\x7f"), text("\x80"), text("\x80a"), text("\xc3\xa4"), text("\xff"),
		text(strings.Repeat("\xff", api.MaxText)),
	}
}

// wrong lists values that aren't right, whatever may be amiss with them.
func wrong() []api.Value {
	long := strings.Repeat("x", api.MaxText+1)
	return []api.Value{
		{N: 1}, {N: -1}, {S: "a"}, {N: 1, S: "a"}, {S: "\x00"},
		{Kind: api.Bool, N: 2}, {Kind: api.Bool, N: -1}, {Kind: api.Bool, N: math.MinInt}, {Kind: api.Bool, N: 1 << 32},
		{Kind: api.Bool, S: "a"}, {Kind: api.Bool, N: 1, S: "a"},
		{Kind: api.Int, S: "a"}, {Kind: api.Int, N: 7, S: "7"}, {Kind: api.Int, N: 7, S: "\x00"},
		{Kind: api.Text, N: 1}, {Kind: api.Text, N: -1, S: "a"}, {Kind: api.Text, S: long},
		{Kind: api.Text, S: strings.Repeat("\xc3\xa4", 13)}, {Kind: api.Text, S: strings.Repeat("x", 5000)},
		{Kind: -1}, {Kind: 4}, {Kind: 4, N: 1}, {Kind: -1, S: "a"}, {Kind: math.MinInt}, {Kind: math.MaxInt},
		{Kind: 256}, {Kind: 257}, {Kind: 258}, {Kind: 259, S: "a"}, {Kind: 1<<32 + api.Int},
	}
}

func TestRight(t *testing.T) {
	for _, v := range rising() {
		if !value.Right(v) {
			t.Errorf("%#v isn't right", v)
		}
	}
	for _, v := range wrong() {
		if value.Right(v) {
			t.Errorf("%#v is right", v)
		}
	}
	for n := range api.MaxText + 3 {
		if v := text(strings.Repeat("y", n)); value.Right(v) != (n <= 24) {
			t.Errorf("a text of %d bytes", n)
		}
	}
	if v := text(strings.Repeat("\xc3\xa4", 12)); !value.Right(v) {
		t.Error("24 bytes that are 12 runes")
	}
	if v := text(strings.Repeat("\xe2\x82\xac", 9)); value.Right(v) {
		t.Error("27 bytes that are 9 runes")
	}
}

func TestRightByFields(t *testing.T) {
	for kind := -3; kind <= 6; kind++ {
		for _, n := range []int{math.MinInt, -1, 0, 1, 2, math.MaxInt} {
			for _, s := range []string{"", "a", strings.Repeat("a", 24), strings.Repeat("a", 25)} {
				want := false
				switch kind {
				case 0:
					want = n == 0 && s == ""
				case 1:
					want = n >= 0 && n <= 1 && s == ""
				case 2:
					want = s == ""
				case 3:
					want = n == 0 && len(s) < 25
				}
				if v := (api.Value{Kind: kind, N: n, S: s}); value.Right(v) != want {
					t.Errorf("%#v: right is %v", v, !want)
				}
			}
		}
	}
}

func sign(n int) int {
	switch {
	case n < 0:
		return -1
	case n > 0:
		return 1
	}
	return 0
}

func TestOrder(t *testing.T) {
	l := rising()
	for i, a := range l {
		for k, b := range l {
			if g := value.Order(a, b); g != sign(i-k) {
				t.Errorf("%#v to %#v: %d, not %d", a, b, g, sign(i-k))
			}
		}
	}
}

// TestOrderIsOne holds the order against itself, without a list that tells what it should be.
func TestOrderIsOne(t *testing.T) {
	l := rising()
	for _, s := range []string{"", "\x00", "a", "b", "\x7f", "\x80", "\xff"} {
		for _, r := range []string{"", "\x00", "a", "\xff"} {
			l = append(l, text(s+r))
		}
	}
	for n := -3; n <= 3; n++ {
		l = append(l, number(n), number(n*(1<<61)), number(math.MaxInt-n))
	}
	for _, a := range l {
		for _, b := range l {
			ab, ba := value.Order(a, b), value.Order(b, a)
			if ab < -1 || ab > 1 || ab != -ba || (ab == 0) != (a == b) {
				t.Fatalf("%#v and %#v: %d and %d", a, b, ab, ba)
			}
			for _, c := range l {
				if bc := value.Order(b, c); ab < 0 && bc < 0 && value.Order(a, c) != -1 {
					t.Fatalf("%#v, %#v, %#v", a, b, c)
				}
			}
		}
	}
}

// comparisons tells of each operation whether it holds of what stands ahead, is the same, stands behind.
func comparisons() map[string][3]int {
	return map[string][3]int{
		"=": {0, 1, 0}, "<>": {1, 0, 1}, "<": {1, 0, 0}, "<=": {1, 1, 0}, ">": {0, 0, 1}, ">=": {0, 1, 1},
	}
}

func wantHolds(t *testing.T, op string, a, b api.Value, want int, code api.Errno) {
	t.Helper()
	if g, e := value.Holds(op, a, b); g != want || e != code {
		t.Errorf("%#v %s %#v: %d and %d, not %d and %d", a, op, b, g, e, want, code)
	}
}

func TestHolds(t *testing.T) {
	l := rising()
	for op, truths := range comparisons() {
		for i, a := range l {
			for k, b := range l {
				switch {
				case a == null || b == null:
					wantHolds(t, op, a, b, api.Unknown, api.OK)
				case a.Kind != b.Kind:
					wantHolds(t, op, a, b, 0, api.ErrType)
				default:
					wantHolds(t, op, a, b, truths[sign(i-k)+1], api.OK)
				}
			}
		}
	}
}

func TestHoldsOfNoComparison(t *testing.T) {
	ops := []string{"", " ", "==", "!=", "><", "=<", "=>", "<<", ">>", "= ", " =", "<>=", "< =", "+", "-", "*", "/",
		"and", "or", "not", "\x00", "=\x00", "\xff", strings.Repeat("=", 3000)}
	for _, op := range ops {
		for _, a := range rising() {
			for _, b := range []api.Value{null, no, number(0), text(""), a} {
				wantHolds(t, op, a, b, 0, api.ErrArg)
				wantHolds(t, op, b, a, 0, api.ErrArg)
			}
		}
	}
}

func TestHoldsOfWrongValues(t *testing.T) {
	for _, op := range []string{"=", "<>", "<", "<=", ">", ">=", "+", ""} {
		for _, a := range wrong() {
			for _, b := range append(rising(), wrong()...) {
				wantHolds(t, op, a, b, 0, api.ErrArg)
				wantHolds(t, op, b, a, 0, api.ErrArg)
			}
		}
	}
}

func wantReckon(t *testing.T, op string, a, b, want api.Value, code api.Errno) {
	t.Helper()
	if g, e := value.Reckon(op, a, b); g != want || e != code {
		t.Errorf("%#v %s %#v: %#v and %d, not %#v and %d", a, op, b, g, e, want, code)
	}
}

// exact reckons without a bound, and then asks whether the number fits.
func exact(op string, m, n int) (api.Value, api.Errno) {
	a, b := big.NewInt(int64(m)), big.NewInt(int64(n))
	switch op {
	case "+":
		a.Add(a, b)
	case "-":
		a.Sub(a, b)
	case "*":
		a.Mul(a, b)
	}
	if !a.IsInt64() {
		return api.Value{}, api.ErrRange
	}
	return number(int(a.Int64())), api.OK
}

// edges lists numbers around zero, around powers of two, and around what they are to one another by division.
func edges() []int {
	l := []int{0, 1, -1, 3, -3, 7, -10, 1000003, -1000003}
	for _, bit := range []uint{1, 7, 8, 15, 16, 30, 31, 32, 33, 61, 62, 63} {
		for d := -2; d <= 2; d++ {
			n := int(uint(1)<<bit) + d
			l = append(l, n, -n)
		}
	}
	for _, n := range []int{2, 3, 5, 10, 3037000499, 3037000500, 1 << 31, 1 << 40} {
		for d := -1; d <= 1; d++ {
			l = append(l, math.MaxInt/n+d, math.MinInt/n+d, n+d, -n-d)
		}
	}
	return l
}

func TestReckonNumbers(t *testing.T) {
	for _, m := range edges() {
		for _, n := range edges() {
			for _, op := range []string{"+", "-", "*"} {
				want, code := exact(op, m, n)
				wantReckon(t, op, number(m), number(n), want, code)
			}
		}
	}
}

func TestReckonAtTheEdges(t *testing.T) {
	least, most := math.MinInt, math.MaxInt
	for _, x := range []struct {
		op   string
		m, n int
		want int
		code api.Errno
	}{
		{"+", 2, 3, 5, 0}, {"-", 2, 3, -1, 0}, {"*", 2, -3, -6, 0},
		{"+", most, 1, 0, api.ErrRange}, {"+", 1, most, 0, api.ErrRange}, {"+", most, 0, most, 0},
		{"+", least, -1, 0, api.ErrRange}, {"+", -1, least, 0, api.ErrRange}, {"+", least, most, -1, 0},
		{"+", most, most, 0, api.ErrRange}, {"+", least, least, 0, api.ErrRange}, {"+", most - 1, 1, most, 0},
		{"-", least, 1, 0, api.ErrRange}, {"-", 0, least, 0, api.ErrRange}, {"-", -1, least, most, 0},
		{"-", most, -1, 0, api.ErrRange}, {"-", least, least, 0, 0}, {"-", least, 0, least, 0}, {"-", 0, most, -most, 0},
		{"-", -2, most, 0, api.ErrRange}, {"-", -1, most, least, 0},
		{"*", least, -1, 0, api.ErrRange}, {"*", -1, least, 0, api.ErrRange}, {"*", least, 1, least, 0},
		{"*", 1, least, least, 0}, {"*", most, -1, -most, 0}, {"*", least, 0, 0, 0}, {"*", 0, least, 0, 0},
		{"*", 1 << 62, 2, 0, api.ErrRange}, {"*", 1 << 62, -2, least, 0}, {"*", -2, 1 << 62, least, 0},
		{"*", 1 << 32, 1 << 32, 0, api.ErrRange}, {"*", 1 << 32, 1 << 31, 0, api.ErrRange},
		{"*", least, least, 0, api.ErrRange}, {"*", most, most, 0, api.ErrRange}, {"*", least, 2, 0, api.ErrRange},
		{"*", 3037000499, 3037000499, 9223372030926249001, 0}, {"*", 3037000500, 3037000500, 0, api.ErrRange},
	} {
		want := number(x.want)
		if x.code != api.OK {
			want = api.Value{}
		}
		wantReckon(t, x.op, number(x.m), number(x.n), want, x.code)
	}
}

func TestReckonTexts(t *testing.T) {
	for m := 0; m <= api.MaxText; m++ {
		for n := 0; n <= api.MaxText; n++ {
			a, b := text(strings.Repeat("a", m)), text(strings.Repeat("\xff", n))
			if m+n <= 24 {
				wantReckon(t, "+", a, b, text(a.S+b.S), api.OK)
			} else {
				wantReckon(t, "+", a, b, api.Value{}, api.ErrLong)
			}
			wantReckon(t, "-", a, b, api.Value{}, api.ErrType)
			wantReckon(t, "*", a, b, api.Value{}, api.ErrType)
		}
	}
	wantReckon(t, "+", text("ab"), text("c"), text("abc"), api.OK)
	wantReckon(t, "+", text("1"), text("2"), text("12"), api.OK)
}

func TestReckonOfKinds(t *testing.T) {
	for _, op := range []string{"+", "-", "*"} {
		for _, a := range rising() {
			for _, b := range rising() {
				bothTexts := op == "+" && a.Kind == api.Text && b.Kind == api.Text
				switch {
				case a == null || b == null:
					wantReckon(t, op, a, b, null, api.OK)
				case (a.Kind != api.Int || b.Kind != api.Int) && !bothTexts:
					wantReckon(t, op, a, b, api.Value{}, api.ErrType)
				}
			}
		}
	}
}

func TestReckonOfNoOperation(t *testing.T) {
	ops := []string{"", " ", "/", "%", "++", "+-", "**", "+ ", " +", "=", "<>", "<", "neg", "and", "\x00", "-\x00",
		"\xff", strings.Repeat("+", 3000)}
	for _, op := range ops {
		for _, a := range rising() {
			for _, b := range []api.Value{null, yes, number(1), text("a"), a} {
				wantReckon(t, op, a, b, api.Value{}, api.ErrArg)
				wantReckon(t, op, b, a, api.Value{}, api.ErrArg)
			}
		}
	}
}

func TestReckonOfWrongValues(t *testing.T) {
	for _, op := range []string{"+", "-", "*", "=", ""} {
		for _, a := range wrong() {
			for _, b := range append(rising(), wrong()...) {
				wantReckon(t, op, a, b, api.Value{}, api.ErrArg)
				wantReckon(t, op, b, a, api.Value{}, api.ErrArg)
			}
		}
	}
}

// odd lists truths, and numbers that are none; place tells where each stands: false, unknown, true.
func odd() []int {
	return []int{0, 1, 2, -1, -2, 3, 4, 255, 256, 257, 1 << 32, 1<<32 + 1, math.MinInt, math.MaxInt}
}

func place(n int) int {
	switch n {
	case 0:
		return 0
	case 1:
		return 2
	}
	return 1
}

func TestTruths(t *testing.T) {
	truths := []int{api.False, api.Unknown, api.True}
	for _, a := range odd() {
		if g := value.Not(a); g != truths[2-place(a)] {
			t.Errorf("not %d: %d", a, g)
		}
		for _, b := range odd() {
			if g := value.And(a, b); g != truths[min(place(a), place(b))] {
				t.Errorf("%d and %d: %d", a, b, g)
			}
			if g := value.Or(a, b); g != truths[max(place(a), place(b))] {
				t.Errorf("%d or %d: %d", a, b, g)
			}
		}
	}
}

func TestTruthsOneByOne(t *testing.T) {
	const f, y, u = api.False, api.True, api.Unknown
	for _, x := range [][4]int{
		{f, f, f, f}, {f, y, f, y}, {f, u, f, u}, {y, f, f, y}, {y, y, y, y}, {y, u, u, y}, {u, f, f, u}, {u, y, u, y},
		{u, u, u, u}, {9, f, f, u}, {9, y, u, y}, {9, -9, u, u}, {y, 9, u, y},
	} {
		if g, h := value.And(x[0], x[1]), value.Or(x[0], x[1]); g != x[2] || h != x[3] {
			t.Errorf("%d and, or %d: %d, %d", x[0], x[1], g, h)
		}
	}
	if value.Not(f) != y || value.Not(y) != f || value.Not(u) != u || value.Not(7) != u || value.Not(-1) != u {
		t.Error("Not")
	}
}

func TestTruth(t *testing.T) {
	for _, v := range rising() {
		want, code := 0, api.ErrType
		switch v {
		case null:
			want, code = api.Unknown, api.OK
		case no:
			want, code = api.False, api.OK
		case yes:
			want, code = api.True, api.OK
		}
		if g, e := value.Truth(v); g != want || e != code {
			t.Errorf("%#v: %d and %d", v, g, e)
		}
	}
	for _, v := range wrong() {
		wantTruthByKind(t, v)
	}
}

// wantTruthByKind asks for a truth of NULLs and Bools alone, right or not: of what is neither False nor True Unknown.
func wantTruthByKind(t *testing.T, v api.Value) {
	t.Helper()
	want, code := 0, api.ErrType
	switch v.Kind {
	case api.Null:
		want, code = api.Unknown, api.OK
	case api.Bool:
		want, code = []int{api.False, api.Unknown, api.True}[place(v.N)], api.OK
	}
	if g, e := value.Truth(v); g != want || e != code {
		t.Errorf("%#v: %d and %d, not %d and %d", v, g, e, want, code)
	}
}

func TestTruthOfBools(t *testing.T) {
	for n, want := range map[int]int{
		math.MinInt: api.Unknown, -1 << 32: api.Unknown, -256: api.Unknown, -2: api.Unknown, -1: api.Unknown, 0: api.False, 1: api.True, 2: api.Unknown, 3: api.Unknown,
		255: api.Unknown, 256: api.Unknown, 257: api.Unknown, 1 << 32: api.Unknown, 1<<32 + 1: api.Unknown, 1 << 62: api.Unknown, math.MaxInt: api.Unknown,
	} {
		for _, s := range []string{"", "a"} {
			if g, e := value.Truth(api.Value{Kind: api.Bool, N: n, S: s}); g != want || e != api.OK {
				t.Errorf("the Bool of %d and %q: %d and %d, not %d and OK", n, s, g, e, want)
			}
		}
	}
}

func TestTruthOfEachKind(t *testing.T) {
	kinds := []int{math.MinInt, -2, -1, api.Null, api.Bool, api.Int, api.Text, 4, 5, 255, 256, 257, 1 << 32, 1<<32 + api.Bool, math.MaxInt}
	for _, kind := range kinds {
		for _, n := range odd() {
			for _, s := range []string{"", "a", "TRUE"} {
				wantTruthByKind(t, api.Value{Kind: kind, N: n, S: s})
			}
		}
	}
}

func TestOf(t *testing.T) {
	for _, n := range odd() {
		want := null
		switch n {
		case api.False:
			want = no
		case api.True:
			want = yes
		}
		if g := value.Of(n); g != want {
			t.Errorf("%d: %#v", n, g)
		}
	}
	for _, n := range []int{api.False, api.True, api.Unknown} {
		if g, e := value.Truth(value.Of(n)); g != n || e != api.OK {
			t.Errorf("back from %d: %d and %d", n, g, e)
		}
	}
}

func TestShow(t *testing.T) {
	for _, x := range []struct {
		v    api.Value
		want string
	}{
		{null, "NULL"}, {yes, "TRUE"}, {no, "FALSE"}, {number(0), "0"}, {number(7), "7"}, {number(-7), "-7"},
		{number(10), "10"}, {number(-100), "-100"}, {number(math.MaxInt), "9223372036854775807"},
		{number(math.MinInt), "-9223372036854775808"}, {number(1 << 40), "1099511627776"},
		{text(""), "''"}, {text("a"), "'a'"}, {text("it's"), "'it''s'"}, {text("'"), "''''"}, {text("''"), "''''''"},
		{text("'a"), "'''a'"}, {text("a'"), "'a'''"}, {text("a''b'c"), "'a''''b''c'"}, {text("NULL"), "'NULL'"},
		{text("12"), "'12'"}, {text("a\nb\\\"\x00"), "'a\nb\\\"\x00'"}, {text("\xff'\x80"), "'\xff''\x80'"},
		{text("\xc3\xa4"), "'\xc3\xa4'"}, {text(" a "), "' a '"},
		{text(strings.Repeat("'", 24)), strings.Repeat("'", 50)},
		{text(strings.Repeat("x", 24)), "'" + strings.Repeat("x", 24) + "'"},
	} {
		if g := value.Show(x.v); g != x.want {
			t.Errorf("%#v: %q, not %q", x.v, g, x.want)
		}
	}
}

// TestShowBack reads what is shown: of unlike values the texts are unlike.
func TestShowBack(t *testing.T) {
	for _, v := range rising() {
		s, got := value.Show(v), api.Value{}
		switch {
		case s == "NULL":
		case s == "TRUE" || s == "FALSE":
			got = boolean(strings.Index("FALSE TRUE", s) / 6)
		case s[0] == '\'':
			got = text(strings.ReplaceAll(s[1:len(s)-1], "''", "'"))
		default:
			n, err := strconv.Atoi(s)
			if err != nil {
				t.Fatal(err)
			}
			got = number(n)
		}
		if got != v {
			t.Errorf("%#v is shown as %q, which is %#v", v, s, got)
		}
	}
}

func TestNothingPanics(t *testing.T) {
	l := append(rising(), wrong()...)
	for _, a := range l {
		value.Right(a)
		value.Truth(a)
		value.Show(a)
		for _, b := range l {
			value.Order(a, b)
			for _, op := range []string{"", "=", "<", "+", "*", "?"} {
				value.Holds(op, a, b)
				value.Reckon(op, a, b)
			}
		}
	}
}
