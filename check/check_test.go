package check_test

import (
	"fmt"
	"reflect"
	"slices"
	"strings"
	"testing"

	"tripwire/api"
	"tripwire/ast"
	"tripwire/check"
	"tripwire/parse"
	"tripwire/value"
)

// short is how something is told in a message.
func short(x any) string {
	s := fmt.Sprintf("%+v", x)
	if len(s) <= 400 {
		return s
	}
	return s[:400] + ".. (long)"
}

// cols are columns told as "a INT, b TEXT"; NULL is the type 0, which no table has, but a variable may.
func cols(text string) []api.Column {
	var l []api.Column
	for _, s := range strings.Split(text, ", ") {
		if name, kind, ok := strings.Cut(s, " "); ok {
			l = append(l, api.Column{Name: name, Type: slices.Index([]string{"NULL", "BOOL", "INT", "TEXT"}, kind)})
		}
	}
	return l
}

func table(name, text string) check.Table { return check.Table{Name: name, Cols: cols(text)} }

func variable(name, text string) check.Var { return check.Var{Name: name, Cols: cols(text)} }

// someTables are those of most tests here.
func someTables() []check.Table {
	return []check.Table{table("t", "a INT, b TEXT"), table("u", "a INT, c BOOL"), table("w", "d BOOL, e TEXT, f INT")}
}

// someVars are t as x, u, and the inserted rows of w.
func someVars() []check.Var {
	return []check.Var{variable("x", "a INT, b TEXT"), variable("u", "a INT, c BOOL"), variable("inserted", "d BOOL, e TEXT, f INT")}
}

func expr(t *testing.T, text string) ast.Expr {
	t.Helper()
	e, x := parse.Expr(text)
	if x != (api.Fault{}) {
		t.Fatalf("%q isn't read: %v", text, x)
	}
	return e
}

// node is how a node is told: a column by its two numbers, all else as an expression's text is. A field that the Op has
// no use for, and that isn't zero, is told too.
func node(n check.Node) string {
	rest := n
	rest.Op, rest.Kids = "", nil
	text := ""
	switch {
	case n.Op == "value":
		rest.V = api.Value{}
		text = value.Show(n.V)
	case n.Op == "column":
		rest.Var, rest.Col = 0, 0
		text = fmt.Sprintf("%d.%d", n.Var, n.Col)
	case len(n.Kids) == 1:
		text = "(" + n.Op + " " + node(n.Kids[0]) + ")"
	case len(n.Kids) == 2:
		text = "(" + node(n.Kids[0]) + " " + n.Op + " " + node(n.Kids[1]) + ")"
	default:
		return fmt.Sprintf("%+v", n)
	}
	if !reflect.DeepEqual(rest, check.Node{}) || len(n.Kids) > 0 && (n.Op == "value" || n.Op == "column") {
		return fmt.Sprintf("%s with %+v", text, n)
	}
	return text
}

func nodes(l []check.Node) string {
	var texts []string
	for _, n := range l {
		texts = append(texts, node(n))
	}
	return strings.Join(texts, ", ")
}

func isZero(n check.Node) bool { return reflect.DeepEqual(n, check.Node{}) }

func wantExpr(t *testing.T, l []check.Var, text, want string, kind int) {
	t.Helper()
	if n, k, e := check.Expr(l, expr(t, text)); e != api.OK || k != kind || node(n) != want {
		t.Errorf("%q is %s, of the type %d, %d; not %s, of the type %d", text, short(node(n)), k, e, want, kind)
	}
}

// wantError asks for the zero node and the type 0 beside the error, too.
func wantError(t *testing.T, l []check.Var, e ast.Expr, want api.Errno) {
	t.Helper()
	if n, k, got := check.Expr(l, e); got != want || k != 0 || !isZero(n) {
		t.Errorf("%s: %d beside %s, of the type %d; not %d", short(ast.ShowExpr(e)), got, short(n), k, want)
	}
}

func wantTextError(t *testing.T, l []check.Var, text string, want api.Errno) {
	t.Helper()
	wantError(t, l, expr(t, text), want)
}

func TestExamples(t *testing.T) {
	l, e := check.Vars([]check.Table{table("t", "a INT"), table("u", "a TEXT")}, []ast.Source{{Table: "t"}, {Table: "u"}}, "")
	if e != api.OK {
		t.Fatal(e)
	}
	wantTextError(t, l, "a", api.ErrName)
	wantTextError(t, l, "t.a = u.a", api.ErrType)
	wantExpr(t, l, "t.a = NULL", "(0.0 = NULL)", api.Bool)
}

func wantTable(t *testing.T, l []check.Table, name string, want check.Table) {
	t.Helper()
	got, e := check.Find(l, name)
	if e != api.OK || got.Name != want.Name || !slices.Equal(got.Cols, want.Cols) {
		t.Errorf("%q is %+v, %d; not %+v", name, got, e, want)
	}
}

// wantNoTable asks for the zero table beside the error, too.
func wantNoTable(t *testing.T, l []check.Table, name string) {
	t.Helper()
	if got, e := check.Find(l, name); e != api.ErrName || got.Name != "" || len(got.Cols) != 0 {
		t.Errorf("%q is %+v, %d; not ErrName", name, got, e)
	}
}

func TestFind(t *testing.T) {
	l := someTables()
	for _, x := range l {
		wantTable(t, l, x.Name, x)
		wantTable(t, []check.Table{x}, x.Name, x)
	}
	for _, name := range []string{"", "v", "tt", "T", "t ", "\x00", "a", "b", strings.Repeat("t", 5000)} {
		wantNoTable(t, l, name)
		wantNoTable(t, l[:1], name)
		wantNoTable(t, nil, name)
		wantNoTable(t, []check.Table{}, name)
	}
	wantNoTable(t, l[:1], "u")
	wantNoTable(t, l[1:], "t")
}

// All that a column has is answered.
func TestFindTellsWholeColumns(t *testing.T) {
	var l []api.Column
	for i := range 12 {
		l = append(l, api.Column{Name: fmt.Sprint("c", i), Type: 1 + i%3, NotNull: i/3%2 == 1, Unique: i/6 == 1})
	}
	for from := range l {
		want := check.Table{Name: "t", Cols: l[from:]}
		wantTable(t, []check.Table{{Name: "u", Cols: l}, want}, "t", want)
		if v, e := check.Vars([]check.Table{want}, []ast.Source{{Table: "t"}}, ""); e != api.OK || len(v) != 1 || !slices.Equal(v[0].Cols, want.Cols) {
			t.Error(v, e)
		}
		if v, e := check.Vars([]check.Table{want}, []ast.Source{{Kind: 1}}, "t"); e != api.OK || len(v) != 1 || !slices.Equal(v[0].Cols, want.Cols) {
			t.Error(v, e)
		}
	}
}

func TestFindTheFirstOne(t *testing.T) {
	a, b, c, other := table("t", "a INT"), table("t", "b TEXT, c INT"), check.Table{Name: "t"}, table("u", "a INT")
	for _, l := range [][]check.Table{{a, b, c}, {b, a, c}, {c, a, b}, {a, a}, {c, b, a}} {
		wantTable(t, l, "t", l[0])
		wantTable(t, append([]check.Table{other}, l...), "t", l[0])
		wantTable(t, append(slices.Clone(l), other), "t", l[0])
		wantTable(t, append(slices.Clone(l), other), "u", other)
	}
}

// A table is found by the name that it has, whatever that is.
func TestFindByAnyName(t *testing.T) {
	for _, name := range []string{"", "T", "a b", "\x00", "\xff", strings.Repeat("x", 100000)} {
		x := table(name, "a INT")
		wantTable(t, []check.Table{table("t", "b INT"), x, table("u", "")}, name, x)
		wantNoTable(t, []check.Table{table("t", "b INT"), table("u", "")}, name)
	}
}
