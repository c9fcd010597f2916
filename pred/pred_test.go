package pred_test

import (
	"fmt"
	"math"
	"slices"
	"strings"
	"testing"

	"tripwire/api"
	"tripwire/ast"
	"tripwire/check"
	"tripwire/parse"
	"tripwire/pred"
	"tripwire/value"
)

func boolean(n int) api.Value { return api.Value{Kind: api.Bool, N: n} }

func number(n int) api.Value { return api.Value{Kind: api.Int, N: n} }

func text(s string) api.Value { return api.Value{Kind: api.Text, S: s} }

var (
	null = api.Value{}
	no   = boolean(0)
	yes  = boolean(1)
)

func val(v api.Value) check.Node { return check.Node{Op: "value", V: v} }

func column(c int) check.Node { return check.Node{Op: "column", Col: c} }

func columnOf(v, c int) check.Node { return check.Node{Op: "column", Var: v, Col: c} }

func op(name string, kids ...check.Node) check.Node { return check.Node{Op: name, Kids: kids} }

func nodes(l ...check.Node) []check.Node { return l }

func row(l ...api.Value) []api.Value { return l }

func compares() []string { return []string{"=", "<>", "<", "<=", ">", ">="} }

// short is how something is told in a message.
func short(x any) string {
	s := fmt.Sprintf("%+v", x)
	if len(s) <= 400 {
		return s
	}
	return s[:400] + ".. (long)"
}

// inOrder is values in the order of layer 9, told by hand: by Kind, then N, then S, whether they are right or not.
func inOrder() []api.Value {
	long := strings.Repeat("a", api.MaxText)
	return []api.Value{
		{Kind: math.MinInt, N: 9, S: "z"}, {Kind: -1}, {Kind: -1, N: 1},
		{N: -1, S: "z"}, null, {S: "a"}, {N: 5}, {N: 5, S: "a"},
		boolean(math.MinInt), boolean(-1), no, {Kind: api.Bool, S: "a"}, yes, {Kind: api.Bool, N: 1, S: "a"}, boolean(2),
		number(math.MinInt), number(-3), number(0), number(1), number(3), {Kind: api.Int, N: 3, S: "a"}, number(4), number(10), number(math.MaxInt),
		{Kind: api.Text, N: -1, S: "z"}, text(""), text("\x00"), text("10"), text("4"), text("B"), text("a"), text("a\x00"), text(long), text(long + "a"), text("ab"), text("b"), text("\xff"), {Kind: api.Text, N: 1},
		{Kind: 4}, {Kind: 4, N: 1, S: "a"}, {Kind: math.MaxInt},
	}
}

// rightOnes is those of inOrder that are right, NULL ahead.
func rightOnes() []api.Value {
	return slices.DeleteFunc(inOrder(), func(v api.Value) bool { return !value.Right(v) })
}

// vars is t (a INT, b TEXT, c BOOL, d INT).
func vars() []check.Var {
	return []check.Var{{Name: "t", Cols: []api.Column{{Name: "a", Type: api.Int}, {Name: "b", Type: api.Text}, {Name: "c", Type: api.Bool}, {Name: "d", Type: api.Int}}}}
}

// cond is what a text asks of t, taken apart.
func cond(t *testing.T, s string) []check.Node {
	t.Helper()
	e, x := parse.Expr(s)
	l, code := check.Cond(vars(), []ast.Expr{e})
	if x != (api.Fault{}) || code != api.OK {
		t.Fatalf("%s: %v, %d", s, x, code)
	}
	return l
}

// testsText is how tests are told: "0 (NULL, 5]" lies behind NULL, up to 5; what has no upper bound ends with "..".
func testsText(l []pred.Test) string {
	var texts []string
	for _, x := range l {
		s := fmt.Sprintf("%d %s%s, ", x.Col, map[bool]string{true: "[", false: "("}[x.Lo.Incl], value.Show(x.Lo.V))
		switch {
		case !x.Lo.Has:
			s = "no lower bound"
		case x.Hi.Has:
			s += value.Show(x.Hi.V) + map[bool]string{true: "]", false: ")"}[x.Hi.Incl]
		case x.Hi.Incl || x.Hi.V != null:
			s += "not the zero bound"
		default:
			s += ".."
		}
		texts = append(texts, s)
	}
	return strings.Join(texts, "; ")
}

// wantOf holds Of against tests, told as testsText does, and the places in l of the rest.
func wantOf(t *testing.T, l []check.Node, tests string, rest ...int) {
	t.Helper()
	c := pred.Of(l)
	var left []check.Node
	for _, i := range rest {
		left = append(left, l[i])
	}
	if testsText(c.Tests) != tests || short(c.Rest) != short(left) {
		t.Errorf("%s makes %s and %s, not %s and %s", short(l), testsText(c.Tests), short(c.Rest), tests, short(left))
	}
}

func TestOfByHand(t *testing.T) {
	for s, x := range map[string]struct {
		tests string
		rest  []int
	}{
		"a = 3 AND b IS NULL AND (a < 5 OR c)": {"0 [3, 3]; 1 [NULL, NULL]", []int{2}},
		"a = 3":                                {"0 [3, 3]", nil},
		"a < 3":                                {"0 (NULL, 3)", nil},
		"a <= 3":                               {"0 (NULL, 3]", nil},
		"a > 3":                                {"0 (3, ..", nil},
		"a >= 3":                               {"0 [3, ..", nil},
		"3 = a":                                {"0 [3, 3]", nil},
		"3 < a":                                {"0 (3, ..", nil},
		"3 <= a":                               {"0 [3, ..", nil},
		"3 > a":                                {"0 (NULL, 3)", nil},
		"3 >= a":                               {"0 (NULL, 3]", nil},
		"'x' = b AND b < 'y'":                  {"1 ['x', 'x']; 1 (NULL, 'y')", nil},
		"c = TRUE AND c > FALSE":               {"2 [TRUE, TRUE]; 2 (FALSE, ..", nil},
		"d IS NULL AND NOT d IS NULL":          {"3 [NULL, NULL]", []int{1}},
		"a <> 3":                               {"", []int{0}},
		"3 <> a":                               {"", []int{0}},
		"a = NULL AND NULL < a":                {"", []int{0, 1}},
		"a = d AND a < a":                      {"", []int{0, 1}},
		"1 = 1 AND 2 < 1 AND NULL IS NULL":     {"", []int{0, 1, 2}},
		"a = - 3":                              {"", []int{0}},
		"a + 1 = 3 AND 3 >= a * 2":             {"", []int{0, 1}},
		"(a + 1) IS NULL AND (a = 1) IS NULL":  {"", []int{0, 1}},
		"NOT a = 3":                            {"", []int{0}},
		"a = 3 OR a = 4":                       {"", []int{0}},
		"c":                                    {"", []int{0}},
		"(a = 3) = TRUE":                       {"", []int{0}},
		"TRUE":                                 {"", []int{0}},
		"c AND a < 9 AND a <> 4 AND 2 < a AND b = 'x' AND (a = 1 OR c) AND d IS NULL": {"0 (NULL, 9); 0 (2, ..; 1 ['x', 'x']; 3 [NULL, NULL]", []int{0, 2, 5}},
	} {
		wantOf(t, cond(t, s), x.tests, x.rest...)
	}
}

func TestMeetsByHand(t *testing.T) {
	r := row(number(3), text("x"), yes, null)
	for s, want := range map[string]bool{
		"a = 3": true, "a = 4": false, "a < 4": true, "a < 3": false, "a <= 3": true, "a <= 2": false, "a > 2": true, "a > 3": false, "a >= 3": true, "a >= 4": false,
		"3 = a": true, "4 > a": true, "3 > a": false, "3 >= a": true, "2 < a": true, "3 < a": false, "3 <= a": true, "4 <= a": false,
		"a IS NULL": false, "d IS NULL": true, "d = 3": false, "d < 3": false, "d <= 3": false, "d > 3": false, "d >= 3": false, "3 > d": false, "3 >= d": false,
		"a IS NOT NULL": true, "d IS NOT NULL": false, "a <> 3": false, "a <> 4": true, "d <> 3": false, "a = NULL": false, "d = NULL": false,
		"b = 'x'": true, "b < 'x'": false, "b <= 'xx'": true, "'' < b": true, "c": true, "c = TRUE": true, "c > FALSE": true, "c < TRUE": false, "NOT c": false,
		"a = 3 AND b = 'x' AND d IS NULL": true, "a = 3 AND b = 'y'": false, "b = 'y' AND a = 3": false, "a > 1 AND a < 4 AND c": true, "a > 1 AND c AND a < 2": false,
		"a = 3 AND NOT c": false, "NOT c AND a = 3": false, "a = 3 AND (b = 'y' OR c)": true, "a = 3 AND d = 1": false, "a = 3 AND d <> 1": false,
		"a + 1 = 4": true, "a * 9223372036854775807 = 1": false, "NOT a * 9223372036854775807 = 1": false, "a = 3 OR a * 9223372036854775807 = 1": true,
		"a = 4 OR a * 9223372036854775807 = 1": false, "b + 'aaaaaaaaaaaaaaaaaaaaaaaa' = 'x'": false, "TRUE": true, "FALSE": false, "1 = 1": true, "NULL IS NULL": true,
	} {
		if c := pred.Of(cond(t, s)); pred.Meets(c, r) != want {
			t.Errorf("%s is met: %v", s, !want)
		}
	}
}
