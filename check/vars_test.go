package check_test

import (
	"fmt"
	"math"
	"slices"
	"strings"
	"testing"

	"tripwire/api"
	"tripwire/ast"
	"tripwire/check"
)

func sources(l ...ast.Source) []ast.Source { return l }

// varsText is how variables are told: the name, the source and the columns of each.
func varsText(l []check.Var) string {
	var texts []string
	for _, v := range l {
		var names []string
		for _, c := range v.Cols {
			names = append(names, fmt.Sprintf("%s %d %v %v", c.Name, c.Type, c.NotNull, c.Unique))
		}
		texts = append(texts, fmt.Sprintf("%q of %d %q %q (%s)", v.Name, v.Source.Kind, v.Source.Table, v.Source.Var, strings.Join(names, ", ")))
	}
	return strings.Join(texts, "; ")
}

func wantVars(t *testing.T, l []check.Table, from []ast.Source, own string, want ...check.Var) {
	t.Helper()
	if got, e := check.Vars(l, from, own); e != api.OK || varsText(got) != varsText(want) {
		t.Errorf("the sources %+v, own %q: %s, %d; not %s", from, own, short(varsText(got)), e, short(varsText(want)))
	}
}

// wantNoVars asks for no variables beside the error, too.
func wantNoVars(t *testing.T, l []check.Table, from []ast.Source, own string, want api.Errno) {
	t.Helper()
	if got, e := check.Vars(l, from, own); e != want || len(got) != 0 {
		t.Errorf("the sources %s, own %q: %s, %d; not %d", short(from), own, short(varsText(got)), e, want)
	}
}

// known is a right source, the name of its variable, and its table's name if own is o.
type known struct {
	s           ast.Source
	name, table string
}

func knownSources(o string) []known {
	return []known{
		{ast.Source{Table: "t"}, "t", "t"},
		{ast.Source{Table: "u"}, "u", "u"},
		{ast.Source{Table: "t", Var: "x"}, "x", "t"},
		{ast.Source{Table: "u", Var: "x"}, "x", "u"},
		{ast.Source{Table: "t", Var: "t"}, "t", "t"},
		{ast.Source{Table: "t", Var: "u"}, "u", "t"},
		{ast.Source{Table: "u", Var: "t"}, "t", "u"},
		{ast.Source{Table: "t", Var: "new"}, "new", "t"},
		{ast.Source{Table: "no"}, "no", "no"},
		{ast.Source{Table: "no", Var: "t"}, "t", "no"},
		{ast.Source{Kind: 1}, "inserted", o},
		{ast.Source{Kind: 2}, "deleted", o},
		{ast.Source{Kind: 3}, "old", o},
		{ast.Source{Kind: 4}, "new", o},
		{ast.Source{Kind: 1, Var: "x"}, "x", o},
		{ast.Source{Kind: 2, Var: "t"}, "t", o},
		{ast.Source{Kind: 3, Var: "new"}, "new", o},
		{ast.Source{Kind: 4, Var: "old"}, "old", o},
		{ast.Source{Kind: 4, Var: "new"}, "new", o},
	}
}

// wantKnown holds what Vars answers of some sources against what is told of each of them.
func wantKnown(t *testing.T, own string, l ...known) {
	t.Helper()
	var from []ast.Source
	var want []check.Var
	first := api.OK
	for i, k := range l {
		from = append(from, k.s)
		at := slices.IndexFunc(someTables(), func(x check.Table) bool { return x.Name == k.table })
		switch {
		case first != api.OK:
		case at < 0:
			first = api.ErrName
		case slices.ContainsFunc(l[:i], func(other known) bool { return other.name == k.name }):
			first = api.ErrThere
		default:
			want = append(want, check.Var{Name: k.name, Source: k.s, Cols: someTables()[at].Cols})
		}
	}
	if first != api.OK {
		wantNoVars(t, someTables(), from, own, first)
	} else {
		wantVars(t, someTables(), from, own, want...)
	}
}

// Each list of at most three of the known sources, with each own.
func TestVarsOfUpToThreeSources(t *testing.T) {
	for _, own := range []string{"", "t", "w", "no"} {
		all := knownSources(own)
		wantKnown(t, own)
		for _, a := range all {
			wantKnown(t, own, a)
			for _, b := range all {
				wantKnown(t, own, a, b)
				for _, c := range all {
					wantKnown(t, own, a, b, c)
				}
			}
		}
	}
}

func TestVarsByHand(t *testing.T) {
	l := someTables()
	tc, uc := l[0].Cols, l[1].Cols
	wantVars(t, l, nil, "")
	wantVars(t, l, nil, "no")
	wantVars(t, nil, nil, "t")
	wantVars(t, l, sources(), "t")
	wantVars(t, l, sources(ast.Source{Table: "t"}), "no", check.Var{Name: "t", Source: ast.Source{Table: "t"}, Cols: tc})
	wantVars(t, l, sources(ast.Source{Table: "t", Var: "x"}, ast.Source{Table: "t", Var: "y"}, ast.Source{Kind: 3, Var: "z"}), "u",
		check.Var{Name: "x", Source: ast.Source{Table: "t", Var: "x"}, Cols: tc},
		check.Var{Name: "y", Source: ast.Source{Table: "t", Var: "y"}, Cols: tc},
		check.Var{Name: "z", Source: ast.Source{Kind: 3, Var: "z"}, Cols: uc})
	wantVars(t, l, sources(ast.Source{Kind: 3}, ast.Source{Kind: 4}), "u",
		check.Var{Name: "old", Source: ast.Source{Kind: 3}, Cols: uc},
		check.Var{Name: "new", Source: ast.Source{Kind: 4}, Cols: uc})
}

func TestVarsThatAreThere(t *testing.T) {
	l := someTables()
	for _, from := range [][]ast.Source{
		{{Table: "t"}, {Table: "t"}},
		{{Table: "t"}, {Table: "u", Var: "t"}},
		{{Table: "t", Var: "u"}, {Table: "u"}},
		{{Table: "t", Var: "x"}, {Table: "u", Var: "x"}},
		{{Kind: 1}, {Kind: 1}},
		{{Kind: 1}, {Kind: 2, Var: "inserted"}},
		{{Kind: 2, Var: "old"}, {Kind: 3}},
		{{Kind: 4}, {Table: "t", Var: "new"}},
		{{Table: "t", Var: "deleted"}, {Kind: 2}},
		{{Table: "t"}, {Table: "u"}, {Table: "t"}},
		{{Table: "t"}, {Table: "u"}, {Table: "w", Var: "u"}},
	} {
		wantNoVars(t, l, from, "t", api.ErrThere)
	}
	other := append(someTables(), table("old", "a INT"))
	wantNoVars(t, other, sources(ast.Source{Table: "old"}, ast.Source{Kind: 3}), "t", api.ErrThere)
	wantNoVars(t, other, sources(ast.Source{Kind: 3}, ast.Source{Table: "old"}), "t", api.ErrThere)
}

// At one source ErrName comes first; at two the first source's error does.
func TestVarsErrorsInOrder(t *testing.T) {
	l := someTables()
	tt, no := ast.Source{Table: "t"}, ast.Source{Table: "no"}
	wantNoVars(t, l, sources(tt, ast.Source{Table: "no", Var: "t"}), "t", api.ErrName)
	wantNoVars(t, l, sources(tt, ast.Source{Kind: 1, Var: "t"}), "", api.ErrName)
	wantNoVars(t, l, sources(tt, tt, no), "t", api.ErrThere)
	wantNoVars(t, l, sources(tt, tt, ast.Source{Kind: 1}), "", api.ErrThere)
	wantNoVars(t, l, sources(tt, no, tt), "t", api.ErrName)
	wantNoVars(t, l, sources(no, tt, tt), "t", api.ErrName)
	wantNoVars(t, l, sources(no, no), "t", api.ErrName)
}

// What a transition's rows have is told by own alone; that a table has no name is no help.
func TestVarsOwn(t *testing.T) {
	nameless := append(someTables(), table("", "z INT"))
	for kind := 1; kind <= 4; kind++ {
		for _, s := range []ast.Source{{Kind: kind}, {Kind: kind, Var: "v"}} {
			wantNoVars(t, someTables(), sources(s), "", api.ErrName)
			wantNoVars(t, someTables(), sources(s), "no", api.ErrName)
			wantNoVars(t, nil, sources(s), "t", api.ErrName)
			wantNoVars(t, nameless, sources(s), "", api.ErrName)
			wantNoVars(t, someTables(), sources(ast.Source{Table: "t"}, s), "", api.ErrName)
		}
	}
	wantVars(t, nameless, sources(ast.Source{}), "", check.Var{Cols: cols("z INT")})
	wantNoVars(t, someTables(), sources(ast.Source{}), "t", api.ErrName)
	two := []check.Table{table("t", "a INT"), table("t", "b INT")}
	wantVars(t, two, sources(ast.Source{Table: "t"}, ast.Source{Kind: 1}), "t",
		check.Var{Name: "t", Source: ast.Source{Table: "t"}, Cols: cols("a INT")},
		check.Var{Name: "inserted", Source: ast.Source{Kind: 1}, Cols: cols("a INT")})
}

// No source may be so, but each call ends: a Kind that is none has no table, and a transition's Table is not looked at.
func TestVarsOfWrongSources(t *testing.T) {
	for _, kind := range []int{-1, 5, 6, 255, 256, 257, math.MinInt, math.MaxInt} {
		for _, s := range []ast.Source{{Kind: kind}, {Kind: kind, Table: "t"}, {Kind: kind, Var: "v"}, {Kind: kind, Table: "t", Var: "v"}} {
			wantNoVars(t, someTables(), sources(s), "t", api.ErrName)
			wantNoVars(t, append(someTables(), table("", "z INT")), sources(s), "", api.ErrName)
			wantNoVars(t, someTables(), sources(ast.Source{Table: "t"}, s), "t", api.ErrName)
		}
	}
	odd := ast.Source{Kind: 2, Table: "u"}
	wantVars(t, someTables(), sources(odd), "t", check.Var{Name: "deleted", Source: odd, Cols: someTables()[0].Cols})
	wantNoVars(t, someTables(), sources(odd), "", api.ErrName)
}

// How many sources a statement may have is asked elsewhere.
func TestVarsOfManySources(t *testing.T) {
	var from []ast.Source
	var want []check.Var
	for i := range 500 {
		s := ast.Source{Kind: i % 5, Var: fmt.Sprint("v", i)}
		if s.Kind == 0 {
			s.Table = "t"
		}
		from = append(from, s)
		want = append(want, check.Var{Name: s.Var, Source: s, Cols: someTables()[0].Cols})
	}
	wantVars(t, someTables(), from, "t", want...)
	for _, i := range []int{1, 250, 499} {
		for _, j := range []int{0, i / 2, i - 1} {
			l := slices.Clone(from)
			l[i].Var = l[j].Var
			wantNoVars(t, someTables(), l, "t", api.ErrThere)
			l[i].Kind, l[i].Table = 0, "no"
			wantNoVars(t, someTables(), l, "t", api.ErrName)
		}
	}
}
