package ast

import (
	"slices"

	"tripwire/api"
	"tripwire/schema"
	"tripwire/value"
)

const (
	maxPriority   = 999
	maxTransition = 4 // the greatest Kind of a source
	maxEvent      = 3
)

// RightExpr tells whether an expression is right.
func RightExpr(e Expr) bool { return rightWithin(e, api.MaxDepth) }

// rightWithin asks for at most depth expressions within one another. It goes no deeper, so that it ends even where an
// expression stands within itself.
func rightWithin(e Expr, depth int) bool {
	if depth == 0 || len(e.Kids) != kids(e.Op) {
		return false
	}
	switch e.Op {
	case opValue: // N of a right value that isn't a whole number is never below 0
		return e.Var == "" && e.Col == "" && value.Right(e.V) && e.V.N >= 0
	case opColumn:
		return e.V == (api.Value{}) && schema.Name(e.Col) && nameOrNone(e.Var)
	}
	return e.V == (api.Value{}) && e.Var == "" && e.Col == "" &&
		all(e.Kids, func(kid Expr) bool { return rightWithin(kid, depth-1) })
}

// kids is how many Kids an Op has; -1, which no list has, if it is none.
func kids(op string) int {
	switch op {
	case opValue, opColumn:
		return 0
	case opNeg, opNot, opNull:
		return 1
	case opPlus, opMinus, opTimes, opEqual, opUnlike, opBelow, opAtMost, opAbove, opAtLeast, opAnd, opOr:
		return 2
	}
	return -1
}

// Right tells whether a statement is right.
func Right(s Stmt) bool {
	if !noMore(s, own(s)) {
		return false
	}
	switch s.Kind {
	case Begin, Commit, Abort:
		return true
	case Save, Back, DropTable, DropIndex, DropRule:
		return schema.Name(s.Name)
	case Table:
		return schema.Name(s.Name) && schema.Columns(s.Cols) == api.OK
	case Index:
		return schema.Name(s.Name) && schema.Name(s.Table) && schema.Name(s.Col)
	case Rule:
		return rightRule(s)
	case Insert:
		return schema.Name(s.Table) && (rightList(s.Values, 1, api.MaxCols, RightExpr) || rightSelect(s))
	case Update:
		return schema.Name(s.Table) && rightList(s.Sets, 1, api.MaxCols, rightSet) && rightWhere(s)
	case Delete:
		return schema.Name(s.Table) && rightWhere(s)
	case Select:
		return rightSelect(s)
	}
	return false
}

// own is what a statement has in the fields that its Kind has, and, where there are two ways, the way that it goes.
func own(s Stmt) Stmt {
	switch s.Kind {
	case Save, Back, DropTable, DropIndex, DropRule:
		return Stmt{Name: s.Name}
	case Table:
		return Stmt{Name: s.Name, Cols: s.Cols}
	case Index:
		return Stmt{Name: s.Name, Table: s.Table, Col: s.Col}
	case Rule:
		return ownOfRule(s)
	case Insert:
		if len(s.Values) > 0 {
			return Stmt{Table: s.Table, Values: s.Values}
		}
		return Stmt{Table: s.Table, Items: s.Items, From: s.From, Where: s.Where}
	case Update:
		return Stmt{Table: s.Table, Sets: s.Sets, Where: s.Where}
	case Delete:
		return Stmt{Table: s.Table, Where: s.Where}
	case Select:
		return Stmt{Items: s.Items, From: s.From, Where: s.Where}
	}
	return Stmt{}
}

func ownOfRule(s Stmt) Stmt {
	o := Stmt{Name: s.Name, Priority: s.Priority, Event: s.Event, Table: s.Table, Deferred: s.Deferred, From: s.From, Rolls: s.Rolls}
	if len(s.From) > 0 {
		o.Where = s.Where
	}
	if !s.Rolls {
		o.Acts = s.Acts
	}
	return o
}

// noMore tells whether s has nothing but what is its own. Lists that are both there are the same one: their lengths tell.
func noMore(s, own Stmt) bool {
	return s.Name == own.Name && s.Table == own.Table && s.Col == own.Col &&
		s.Priority == own.Priority && s.Event == own.Event && s.Deferred == own.Deferred && s.Rolls == own.Rolls &&
		len(s.Cols) == len(own.Cols) && len(s.Values) == len(own.Values) && len(s.Items) == len(own.Items) &&
		len(s.Where) == len(own.Where) && len(s.Sets) == len(own.Sets) && len(s.From) == len(own.From) &&
		len(s.Acts) == len(own.Acts)
}

func rightRule(s Stmt) bool {
	return schema.Name(s.Name) && schema.Name(s.Table) &&
		0 <= s.Priority && s.Priority <= maxPriority && 1 <= s.Event && s.Event <= maxEvent &&
		rightList(s.From, 0, api.MaxVars, rightSource) && rightWhere(s) &&
		(s.Rolls || rightList(s.Acts, 1, api.MaxActs, rightAct))
}

// rightAct asks for the Kind first: no such statement has Acts, so that a rule among its own Acts isn't gone into.
func rightAct(s Stmt) bool {
	return (s.Kind == Insert || s.Kind == Update || s.Kind == Delete) && Right(s)
}

// rightSelect asks for what a Select has, also within an Insert.
func rightSelect(s Stmt) bool {
	return rightList(s.Items, 0, api.MaxList, RightExpr) && rightList(s.From, 1, api.MaxVars, rightSource) && rightWhere(s)
}

func rightWhere(s Stmt) bool { return rightList(s.Where, 0, 1, RightExpr) }

func rightSet(x Set) bool { return schema.Name(x.Col) && RightExpr(x.E) }

func rightSource(s Source) bool {
	if s.Kind == 0 {
		return schema.Name(s.Table) && nameOrNone(s.Var)
	}
	return 1 <= s.Kind && s.Kind <= maxTransition && s.Table == "" && nameOrNone(s.Var)
}

func nameOrNone(s string) bool { return s == "" || schema.Name(s) }

// rightList asks for the length first, so that of a list that is too long nothing is gone through.
func rightList[T any](l []T, least, most int, right func(T) bool) bool {
	return least <= len(l) && len(l) <= most && all(l, right)
}

func all[T any](l []T, right func(T) bool) bool {
	return !slices.ContainsFunc(l, func(x T) bool { return !right(x) })
}
