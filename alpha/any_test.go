package alpha_test

import (
	"math"
	"math/rand/v2"
	"testing"

	"tripwire/alpha"
	"tripwire/api"
	"tripwire/check"
	"tripwire/index"
	"tripwire/pred"
)

// anyValue is one that is right or not.
func anyValue(r *rand.Rand) api.Value {
	return api.Value{Kind: pick(r, 0, 1, 2, 2, 3, 3, 4, -1, math.MinInt), N: pick(r, 0, 0, 1, 2, 3, 5, -1, math.MaxInt, math.MinInt), S: pick(r, "", "", "x", "\xff", "a text that is longer than one may be")}
}

func anyRow(r *rand.Rand) []api.Value {
	var l []api.Value
	for range r.IntN(6) {
		l = append(l, anyValue(r))
	}
	return l
}

// anyNode is one that nobody checked.
func anyNode(r *rand.Rand, depth int) check.Node {
	n := check.Node{V: anyValue(r), Var: pick(r, 0, 0, 0, 1, -1), Col: pick(r, 0, 1, 2, 3, -1, math.MaxInt)}
	kids := pick(r, 0, 1, 2, 2)
	if depth == 1 {
		kids = 0
	}
	switch kids {
	case 0:
		n.Op = pick(r, "column", "value")
	case 1:
		n.Op = pick(r, "null", "not", "neg")
	case 2:
		n.Op = pick(r, "and", "or", "=", "<>", "<", "<=", ">", ">=", "+", "-", "*")
	}
	if r.IntN(30) == 0 {
		n.Op, kids = pick(r, "", "AND", "and", "column", "value", "null", "\xff"), r.IntN(4)
	}
	for range kids {
		n.Kids = append(n.Kids, anyNode(r, max(1, depth-1)))
	}
	return n
}

func anyBound(r *rand.Rand) index.Bound {
	return index.Bound{Has: r.IntN(3) > 0, Incl: r.IntN(2) == 0, V: anyValue(r)}
}

// anyCond is one that nobody made of a text; many of its nodes are true.
func anyCond(r *rand.Rand) pred.Cond {
	var c pred.Cond
	for range r.IntN(3) {
		c.Tests = append(c.Tests, pred.Test{Col: pick(r, 0, 0, 0, 1, 2, 3, -1, math.MaxInt, math.MinInt), Lo: anyBound(r), Hi: anyBound(r)})
	}
	for range r.IntN(3) {
		c.Rest = append(c.Rest, pick(r, check.Node{Op: "value", V: truth(1)}, check.Node{Op: "not", Kids: []check.Node{{Op: "null", Kids: []check.Node{{Op: "column"}}}}}, anyNode(r, 3)))
	}
	return c
}

// Conditions, rows and values of any form: nothing panics, and all is as the chapter says.
func TestWhateverIsGiven(t *testing.T) {
	in, out := 0, 0
	for seed := range uint64(20000) {
		r := rand.New(rand.NewPCG(182, seed))
		s, k := alpha.New(), &kept{}
		for range 6 {
			c := call{what: pick(r, "Add", "Add", "Note", "Note", "Note", "Cut"), n: numberByChance(r), c: anyCond(r), was: anyRow(r), is: anyRow(r)}
			for range r.IntN(4) {
				c.rows = append(c.rows, at(numberByChance(r), anyRow(r)))
			}
			if c.what == "Note" && r.IntN(2) == 0 {
				c.was = nil
			}
			if d := c.differs(s, k); d != "" {
				t.Fatalf("seed %d, %s: %s", seed, short(c), d)
			}
		}
		for _, m := range *k {
			if len(m.ids) > 0 {
				in++
			} else {
				out++
			}
		}
	}
	if in < 5000 || out < 5000 {
		t.Error(in, out, "too few to tell anything")
	}
}

// A node that stands within itself is beyond what the document promises; the calls end all the same.
func TestNodeWithinItself(t *testing.T) {
	for _, op := range []string{"and", "or", "not", "=", "+", "null", "no op"} {
		n := check.Node{Op: op, Kids: make([]check.Node, 2)}
		if op == "not" || op == "null" {
			n.Kids = n.Kids[:1]
		}
		for i := range n.Kids {
			n.Kids[i] = n
		}
		s := alpha.New()
		wantOK(t, s.Add(0, pred.Cond{Rest: []check.Node{n}}, []api.Row{at(1, of(5))}), s.Add(1, cond("a > 3"), nil))
		s.Note(2, nil, of(5))
		wantIDs(t, s, 0)
		wantIDs(t, s, 1, 2)
	}
}
