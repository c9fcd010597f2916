package ast_test

import (
	"fmt"
	"reflect"
	"slices"
	"strings"
	"testing"
	"unsafe"

	"tripwire/api"
	"tripwire/ast"
)

// An empty list and no list are one: wherever one is missing, and wherever one must be there.
func TestEmptyListsAreNone(t *testing.T) {
	lists := []string{"Cols", "Values", "Items", "Where", "Sets", "From", "Acts"}
	emptied := func(s ast.Stmt) ast.Stmt {
		for _, name := range lists {
			if f := reflect.ValueOf(&s).Elem().FieldByName(name); f.Len() == 0 {
				f.Set(reflect.MakeSlice(f.Type(), 0, 3))
			}
		}
		return s
	}
	for _, x := range samples() {
		wantStmt(t, emptied(x.s), x.text)
		for _, name := range lists {
			s := with(x.s, name, nil)
			if got, want := ast.Show(emptied(s)), ast.Show(s); got != want || ast.Right(emptied(s)) != ast.Right(s) {
				t.Errorf("%q with empty lists, %q with none", got, want)
			}
		}
	}
	for kind := -1; kind <= 17; kind++ {
		asWanted(t, kind >= 1 && kind <= 3, emptied(ast.Stmt{Kind: kind}))
	}
	for _, k := range ops() {
		none, empty := made(k.name), made(k.name)
		empty.Kids = make([]ast.Expr, 0, 2)
		if ast.RightExpr(none) != (k.kids == 0) || ast.RightExpr(empty) != (k.kids == 0) || ast.ShowExpr(none) != ast.ShowExpr(empty) {
			t.Errorf("%s of no Kids, and of an empty list of them", k.name)
		}
	}
}

// roomy gives each list within v room behind its end, in which something stands, and hands on each such list whole.
func roomy(v reflect.Value, whole func(reflect.Value)) {
	switch v.Kind() {
	case reflect.Struct:
		for i := range v.NumField() {
			roomy(v.Field(i), whole)
		}
	case reflect.Slice:
		n := v.Len()
		for i := range n {
			roomy(v.Index(i), whole)
		}
		l := reflect.MakeSlice(v.Type(), n+3, n+3)
		reflect.Copy(l, v)
		for i := n; i < n+3; i++ {
			l.Index(i).Field(0).Set(reflect.ValueOf(map[bool]any{true: -7, false: "room"}[l.Index(i).Field(0).Kind() == reflect.Int]))
		}
		whole(l)
		v.Set(l.Slice(0, n))
	}
}

func TestNoArgumentIsWrittenInto(t *testing.T) {
	for seed := range uint64(600) {
		s := byChance(seed)
		if seed%3 == 0 {
			s = altered(seed, 5)
		}
		var lists []any
		roomy(reflect.ValueOf(&s).Elem(), func(l reflect.Value) { lists = append(lists, l.Interface()) })
		was := fmt.Sprintf("%#v", lists)
		ast.Right(s)
		first := ast.Show(s)
		if second := ast.Show(s); first != second || first != told(s) {
			t.Errorf("%q, then %q", first, second)
		}
		if fmt.Sprintf("%#v", lists) != was {
			t.Fatalf("%s was written into", short(s))
		}
		for _, e := range slices.Concat(s.Where, s.Items) {
			ast.RightExpr(e)
			ast.ShowExpr(e)
		}
		if fmt.Sprintf("%#v", lists) != was {
			t.Fatalf("an expression of %s was written into", short(s))
		}
	}
}

// loose makes each text within v one whose bytes may be written over, and hands them on.
func loose(v reflect.Value, each func([]byte)) {
	switch v.Kind() {
	case reflect.Struct:
		for i := range v.NumField() {
			loose(v.Field(i), each)
		}
	case reflect.Slice:
		for i := range v.Len() {
			loose(v.Index(i), each)
		}
	case reflect.String:
		if b := []byte(v.String()); len(b) > 0 {
			v.SetString(unsafe.String(&b[0], len(b)))
			each(b)
		}
	}
}

// A text shares nothing with what it is the text of: its names and texts may become others behind the call.
func TestTextsAreNewMemory(t *testing.T) {
	for seed := range uint64(600) {
		s := byChance(seed)
		var all [][]byte
		loose(reflect.ValueOf(&s).Elem(), func(b []byte) { all = append(all, b) })
		got, want := ast.Show(s), told(byChance(seed))
		for _, b := range all {
			clear(b)
		}
		if got != want {
			t.Fatalf("%q, not %q, when what was handed in has become another", got, want)
		}
	}
	for want, e := range map[string]ast.Expr{"abc": col("abc"), "x.abc": dot("x", "abc"), "'abc'": str("abc"), "(- abc)": op("neg", col("abc")), "12": num(12)} {
		var all [][]byte
		loose(reflect.ValueOf(&e).Elem(), func(b []byte) { all = append(all, b) })
		got := ast.ShowExpr(e)
		for _, b := range all {
			clear(b)
		}
		if got != want {
			t.Errorf("%q, not %q, when what was handed in has become another", got, want)
		}
	}
}

// An expression whose Kids have it itself is deeper than any may be.
func TestExpressionsWithinThemselves(t *testing.T) {
	for _, name := range []string{"neg", "not", "null"} {
		kids := make([]ast.Expr, 1)
		kids[0] = op(name, kids...)
		kids[0].Kids = kids
		wantWrongExpr(t, kids[0])
	}
	for _, name := range []string{"+", "=", "and"} {
		for bits := 1; bits <= 3; bits++ {
			kids := exprs(num(1), col("a"))
			for at := range 2 {
				if bits>>at&1 != 0 {
					kids[at] = ast.Expr{Op: name, Kids: kids}
				}
			}
			wantWrongExpr(t, ast.Expr{Op: name, Kids: kids})
		}
	}
	for _, e := range []ast.Expr{{Op: "value"}, {Op: "column", Col: "a"}, {Op: "no"}, {}} {
		e.Kids = make([]ast.Expr, 2)
		e.Kids[0], e.Kids[1] = e, e
		wantWrongExpr(t, e)
	}
}

// A rule among its own Acts is no Insert, Update or Delete, and none of these has Acts.
func TestStatementsWithinThemselves(t *testing.T) {
	for _, x := range samples() {
		for n := 1; n <= 4; n++ {
			s := x.s
			s.Acts = make([]ast.Stmt, n)
			for i := range s.Acts {
				s.Acts[i] = s
			}
			wantWrong(t, s)
			if ast.Right(inRule(s)) || ast.Show(inRule(s)) != "" {
				t.Errorf("an act of Kind %d that is among its own Acts is right", s.Kind)
			}
		}
	}
}

// doubled is an expression of n within one another, in which each one's Kids are both the next one: small, but told 2^(n-1) times.
func doubled(n int, leaf ast.Expr) ast.Expr {
	return deep(n-1, leaf, func(i int, e ast.Expr) ast.Expr { return op("+", e, e) })
}

func TestGreatExpressions(t *testing.T) {
	e := doubled(20, num(1))
	text := "1"
	for range 19 {
		text = "(" + text + " + " + text + ")"
	}
	if !ast.RightExpr(e) || ast.ShowExpr(e) != text {
		t.Error("the greatest expression of ones")
	}
	s := ast.Stmt{Kind: 15, Items: exprs(e, num(2), e), From: from(ast.Source{Table: "t"})}
	if !ast.Right(s) || ast.Show(s) != "SELECT "+text+", 2, "+text+" FROM t" {
		t.Error("two of them in a Select")
	}
	widest := str(strings.Repeat("'", 24))
	if n := len(ast.ShowExpr(doubled(20, widest))); n != 1<<19*50+(1<<19-1)*5 {
		t.Errorf("%d bytes of the widest one", n)
	}
	for _, wrong := range []ast.Expr{doubled(21, num(1)), doubled(60, num(1)), doubled(20, num(-1)), op("+", doubled(19, num(1)), doubled(19, op("neg", num(1)))), op("-", doubled(19, num(1)), num(-1))} {
		if ast.RightExpr(wrong) || ast.ShowExpr(wrong) != "" {
			t.Error("one that is too deep, or wrong within, is right")
		}
	}
}

// Whatever stands in the fields, each call ends, and what isn't right has no text.
func TestWhateverIsHandedIn(t *testing.T) {
	great := strings.Repeat("\xff", 1<<20)
	for kind := -2; kind <= 17; kind++ {
		wantWrong(t, ast.Stmt{Kind: kind, Name: great, Table: great, Col: great})
		wantWrong(t, ast.Stmt{
			Kind: kind, Cols: make([]api.Column, 100000), Values: make([]ast.Expr, 100000), Items: make([]ast.Expr, 100000), Where: make([]ast.Expr, 100000),
			Sets: make([]ast.Set, 100000), From: make([]ast.Source, 100000), Acts: make([]ast.Stmt, 10000),
		})
	}
	for _, k := range ops() {
		if e := (ast.Expr{Op: k.name, V: api.Value{Kind: 3, S: great}, Var: great, Col: great, Kids: make([]ast.Expr, 100000)}); ast.RightExpr(e) || ast.ShowExpr(e) != "" {
			t.Error(k.name)
		}
	}
}
