package schema_test

import (
	"math"
	"slices"
	"strings"
	"testing"

	"tripwire/api"
	"tripwire/schema"
)

func boolean(n int) api.Value { return api.Value{Kind: api.Bool, N: n} }

func number(n int) api.Value { return api.Value{Kind: api.Int, N: n} }

func text(s string) api.Value { return api.Value{Kind: api.Text, S: s} }

// ofKinds lists right values, those of each Kind under its number.
func ofKinds() [4][]api.Value {
	return [4][]api.Value{
		{{}},
		{boolean(0), boolean(1)},
		{number(0), number(1), number(-1), number(math.MinInt), number(math.MaxInt)},
		{text(""), text("a"), text("\x00\xff"), text(strings.Repeat("x", 24))},
	}
}

// wrongOfKinds lists values that aren't right, those that come near to each Kind under its number, and others behind.
func wrongOfKinds() [5][]api.Value {
	return [5][]api.Value{
		{{N: 1}, {N: -1}, {S: "a"}, {N: 1, S: "a"}},
		{boolean(2), boolean(-1), boolean(256), {Kind: api.Bool, S: "a"}, {Kind: api.Bool, N: 1, S: "a"}},
		{{Kind: api.Int, S: "a"}, {Kind: api.Int, N: 7, S: "\x00"}},
		{text(strings.Repeat("x", 25)), text(strings.Repeat("x", 5000)), {Kind: api.Text, N: 1}, {Kind: api.Text, N: -1, S: "a"}},
		{{Kind: 4}, {Kind: 7}, {Kind: -1}, {Kind: 255}, {Kind: 256}, {Kind: 258, N: 1}, {Kind: math.MinInt}, {Kind: math.MaxInt}},
	}
}

// wantFit also asks that nothing is written into either list.
func wantFit(t *testing.T, l []api.Column, row []api.Value, want api.Errno) {
	t.Helper()
	columns := append(slices.Clone(l), integer("room"))
	values := append(slices.Clone(row), number(99))
	wereColumns, wereValues := slices.Clone(columns), slices.Clone(values)
	if e := schema.Fit(columns[:len(l)], values[:len(row)]); e != want {
		t.Errorf("Fit of %v and %v: %d, not %d", l, row, e, want)
	}
	if !slices.Equal(columns, wereColumns) || !slices.Equal(values, wereValues) {
		t.Errorf("Fit of %v and %v wrote into them: %v, %v", l, row, columns, values)
	}
}

func TestFitExamples(t *testing.T) {
	l := []api.Column{{Name: "a", Type: api.Int, NotNull: true}, {Name: "b", Type: api.Text}}
	wantFit(t, l, []api.Value{number(1), {}}, api.OK)
	wantFit(t, l, []api.Value{number(1), text("x")}, api.OK)
	wantFit(t, l, []api.Value{{}, {}}, api.ErrNull)
	wantFit(t, l, []api.Value{number(1), number(2)}, api.ErrType)
}

func TestFitByNumber(t *testing.T) {
	if schema.Fit(nil, nil) != api.OK || schema.Fit(nil, []api.Value{}) != api.OK ||
		schema.Fit([]api.Column{}, nil) != api.OK || schema.Fit([]api.Column{}, []api.Value{}) != api.OK {
		t.Error("none of either")
	}
	if schema.Fit(nil, []api.Value{{}}) != api.ErrArg || schema.Fit(named("a"), nil) != api.ErrArg {
		t.Error("none of one of them")
	}
	for _, v := range []api.Value{number(1), {}, text("a"), {Kind: 9}} {
		for n := range 9 {
			for m := range 9 {
				l := slices.Repeat([]api.Column{{Name: "a", Type: api.Int, NotNull: true}}, n)
				row := slices.Repeat([]api.Value{number(5)}, m)
				if m > 0 && n != m {
					row[0] = v
				}
				want := api.OK
				if n != m {
					want = api.ErrArg
				}
				wantFit(t, l, row, want)
			}
		}
	}
}

// columnsOf are columns of a Type, with each of the flags; only NotNull may be seen.
func columnsOf(kind int, notNull bool) []api.Column {
	return []api.Column{
		{Name: "x", Type: kind, NotNull: notNull}, {Name: "x", Type: kind, NotNull: notNull, Unique: true}, {Type: kind, NotNull: notNull},
	}
}

// wantAt holds a column and its value against want at each place among n columns, with right ones about it.
func wantAt(t *testing.T, c api.Column, v api.Value, want api.Errno) {
	t.Helper()
	for n := 1; n <= 6; n++ {
		for k := range n {
			l := named("a b c d e f")[:n]
			row := slices.Repeat([]api.Value{number(3)}, n)
			l[k], row[k] = c, v
			wantFit(t, l, row, want)
		}
	}
}

func TestFitKindsAgainstTypes(t *testing.T) {
	for kind, values := range ofKinds() {
		for _, v := range values {
			for want := 1; want <= 3; want++ {
				for _, notNull := range []bool{false, true} {
					code := api.OK
					switch {
					case kind == api.Null && notNull:
						code = api.ErrNull
					case kind != api.Null && kind != want:
						code = api.ErrType
					}
					for _, c := range columnsOf(want, notNull) {
						wantAt(t, c, v, code)
					}
				}
			}
		}
	}
}

func TestFitOfWrongValues(t *testing.T) {
	for _, values := range wrongOfKinds() {
		for _, v := range values {
			for kind := range 5 {
				for _, notNull := range []bool{false, true} {
					for _, c := range columnsOf(kind, notNull) {
						wantAt(t, c, v, api.ErrArg)
					}
				}
			}
		}
	}
	for _, kind := range []int{-1, 4, 7, 255, 256} {
		wantAt(t, api.Column{Name: "x", Type: kind}, api.Value{Kind: kind}, api.ErrArg)
	}
}

// A column that Columns refuses is taken as it is: no value but NULL is of a Type that may not be.
func TestFitOfColumnsThatAreWrong(t *testing.T) {
	for _, kind := range []int{0, 4, 255, 256, 258, -1, math.MinInt, math.MaxInt} {
		for own, values := range ofKinds() {
			for _, v := range values {
				if own == api.Null {
					wantAt(t, api.Column{Type: kind}, v, api.OK)
					wantAt(t, api.Column{Type: kind, NotNull: true}, v, api.ErrNull)
					continue
				}
				wantAt(t, api.Column{Type: kind}, v, api.ErrType)
				wantAt(t, api.Column{Type: kind, NotNull: true}, v, api.ErrType)
			}
		}
	}
	n := 1000
	row := slices.Repeat([]api.Value{number(1)}, n)
	wantFit(t, slices.Repeat(named("a"), n), row, api.OK)
	row[n-1] = text("")
	wantFit(t, slices.Repeat(named("a"), n), row, api.ErrType)
}

// The first wrong column decides, whatever is wrong with those behind it.
func TestFitInItsOrder(t *testing.T) {
	c := api.Column{Name: "x", Type: api.Int, NotNull: true}
	wrong := []struct {
		v    api.Value
		code api.Errno
	}{
		{api.Value{Kind: 4}, api.ErrArg}, {api.Value{N: 1}, api.ErrArg}, {api.Value{Kind: api.Int, S: "a"}, api.ErrArg},
		{api.Value{}, api.ErrNull}, {text("a"), api.ErrType}, {boolean(1), api.ErrType},
	}
	l := slices.Repeat([]api.Column{c}, 6)
	for _, x := range wrong {
		for _, y := range wrong {
			for k := range 6 {
				for i := range k {
					row := slices.Repeat([]api.Value{number(0)}, 6)
					row[i], row[k] = x.v, y.v
					wantFit(t, l, row, x.code)
					wantFit(t, l[:5], row, api.ErrArg)
				}
			}
		}
	}
}

// toldFit reads the chapter's words anew, with the numbers that it names.
func toldFit(l []api.Column, row []api.Value) api.Errno {
	if len(row) != len(l) {
		return 15
	}
	for i, v := range row {
		switch {
		case !among(ofKinds(), v):
			return 15
		case v == (api.Value{}):
			if l[i].NotNull {
				return 5
			}
		case v.Kind != l[i].Type:
			return 4
		}
	}
	return 0
}

func among(l [4][]api.Value, v api.Value) bool {
	for _, values := range l {
		if slices.Contains(values, v) {
			return true
		}
	}
	return false
}

func TestFitOfAllShortLists(t *testing.T) {
	columns := []api.Column{integer("a"), {Name: "a", Type: api.Text}, {Name: "b", Type: api.Int, NotNull: true}, {Type: api.Bool, NotNull: true}}
	values := []api.Value{{}, number(1), text("a"), boolean(1), {N: 1}, {Kind: api.Int, S: "a"}}
	each(columns, 3, func(l []api.Column) {
		each(values, 4, func(row []api.Value) { wantFit(t, l, row, toldFit(l, row)) })
	})
}
