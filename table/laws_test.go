package table_test

import (
	"math/rand"
	"testing"

	"tenet/api"
	"tenet/table"
	"tenet/term"
)

// anyTable returns a table of a few declarations, which are well formed mostly.
func anyTable(r *rand.Rand) api.Table {
	var tab api.Table
	for i := range 1 + r.Intn(6) {
		name := string(rune('A' + i))
		if r.Intn(40) == 0 {
			name = "A"
		}
		d := api.Decl{Name: name, Kind: api.KData, Levels: r.Intn(2), Param: parse("unit")}
		for k := range r.Intn(3) {
			arg := goodArg(r, d, 1, 3)
			if r.Intn(30) == 0 {
				arg = anyArg(r, d, 3)
			}
			d.Cons = append(d.Cons, api.Con{Name: string(rune('a' + k)), Arg: arg})
		}
		if r.Intn(2) == 0 {
			d = leveled(define(name, "unit", "(app 0 "+anyName(r)+" "+anyName(r)+")"), r.Intn(2))
		}
		if r.Intn(4) == 0 {
			d = leveled(assume(name, "(app 0 "+anyName(r)+" star)"), r.Intn(2))
		}
		tab.Decls = append(tab.Decls, limited(d))
	}
	return tab
}

// limited takes the level variables of a declaration that it has not.
func limited(d api.Decl) api.Decl {
	if d.Kind != api.KData {
		return d
	}
	for k, c := range d.Cons {
		if d.Levels == 0 {
			d.Cons[k].Arg, _ = term.SetLevels(c.Arg, []api.Level{lv(0), lv(0)})
		} else {
			d.Cons[k].Arg, _ = term.SetLevels(c.Arg, []api.Level{u(0), lv(1)})
		}
	}
	return d
}

// anyName returns a text of a term that may name declarations.
func anyName(r *rand.Rand) string {
	name := "@" + string(rune('A'+r.Intn(6)))
	if r.Intn(3) == 0 {
		name += "{0}"
	}
	switch r.Intn(8) {
	case 0:
		return name
	case 1, 2:
		return "(data " + name + " star)"
	case 3:
		return "(con " + name + " 0 star star)"
	}
	return "star"
}

// P4.6

func TestGoodTablesLoseTheirLast(t *testing.T) {
	r := rand.New(rand.NewSource(7))
	good := 0
	for range 6000 {
		tab := anyTable(r)
		n := len(tab.Decls)
		at, code := table.Check(tab)
		if (code == api.OK) != (at == -1) {
			t.Fatalf("Check is %d, %v", at, code)
		}
		if code != api.OK {
			n = at
		}
		good += n
		for i := range n {
			before := api.Table{Decls: tab.Decls[:i]}
			if j, e := table.Check(before); j != -1 || e != api.OK {
				t.Fatalf("Check of the first %d of %+v: %d, %v", i, tab, j, e)
			}
			fitsBehind(t, before, tab.Decls[i])
		}
		if code == api.OK {
			continue
		}
		if j, e := table.Check(api.Table{Decls: tab.Decls[:n+1]}); j != n || e != code {
			t.Fatalf("Check up to the first bad one is %d, %v, want %d, %v", j, e, n, code)
		}
	}
	if good < 5000 {
		t.Errorf("only %d declarations are good", good)
	}
}

// fitsBehind checks that the terms of a well formed declaration fit the table before it, and those of a family's constructors one with the family.
func fitsBehind(t *testing.T, before api.Table, d api.Decl) {
	t.Helper()
	for _, x := range []api.Term{d.Type, d.Body, d.Param} {
		if f := table.Fits(before, x); !isZero(x) && f.Code != api.OK {
			t.Fatalf("%s does not fit the table before it: %v", text(x), f)
		}
	}
	for k, x := range armsOf(d) {
		f := table.Fits(before, x)
		if occurs(d.Name, x) {
			f = table.Fits(with(before, d), x)
		}
		if f.Code != api.OK || !isArgument(d, x) {
			t.Fatalf("the Arg %d of %+v: %v", k, d, f)
		}
	}
	if f := table.Positive(before, d); f.Code != api.OK {
		t.Fatalf("%+v is not positive: %v", d, f)
	}
}

// P4.7

func TestHypothesesAndValuesGoAlong(t *testing.T) {
	r := rand.New(rand.NewSource(8))
	for i := range 4000 {
		d := family("D", "unit", "unit")
		d.Cons[0].Arg = goodArg(r, d, 1, 1+i%5)
		mark := i / 5 % 2
		e := api.Term{Op: api.TElim, S: "D", N: mark, L: []api.Term{parse("(app 0 #1 (app 0 #0 #3))"), parse("#0"), parse("star"), parse("star")}}
		p, a := plainTerm(r, 3), plainTerm(r, 3)
		h, c1 := table.Hypotheses(tableOf(d), e, 0, p, a)
		v, c2 := table.Values(tableOf(d), e, 0, p, a)
		if c1 != api.OK || c2 != api.OK {
			t.Fatalf("Hypotheses and Values: %v, %v", c1, c2)
		}
		goAlong(t, mark, h, v, e.L[0], 0)
		l, _ := table.Recursive(tableOf(d), "D")
		unit := h.Op == pick(e, api.TUnit, api.TTrue)
		if unit != (len(l) == 0) {
			t.Fatalf("Hypotheses of %s: %s, Recursive is %v", text(d.Cons[0].Arg), text(h), l)
		}
	}
}

// goAlong checks that v is a value of the hypotheses h.
func goAlong(t *testing.T, mark int, h, v, motive api.Term, depth int) {
	t.Helper()
	switch v.Op {
	case api.TLam:
		if h.Op != api.TPi || h.N != v.N|2*mark || !equal(h.L[0], v.L[0]) {
			t.Fatalf("%s is no value of %s", text(v), text(h))
		}
		goAlong(t, mark, h.L[1], v.L[1], motive, depth+1)
	case api.TPair:
		if h.Op != api.TSigma || h.N != 3*mark || v.N != 3*mark || !equal(h.L[0], v.L[0]) || !equal(h.L[1], v.L[1]) {
			t.Fatalf("%s is no value of %s", text(v), text(h))
		}
		goAlong(t, mark, h.L[0], v.L[2], motive, depth)
		// The second type has a variable more around it.
		goAlong(t, mark, term.Fill(h.L[1], []api.Term{v.L[2]}), v.L[3], motive, depth)
	case api.TElim:
		n := len(v.L)
		up, _ := term.Shift(motive, depth, 2)
		if v.N != mark || !equal(v.L[0], up) || !equal(h, term.Fill(up, []api.Term{v.L[n-1], v.L[n-2]})) {
			t.Fatalf("%s is no value of %s", text(v), text(h))
		}
	default:
		if h.Op != api.TUnit+2*mark || v.Op != api.TStar+2*mark {
			t.Fatalf("%s is no value of %s", text(v), text(h))
		}
	}
}

// P4.8

func TestLevelsBeforeOrAfter(t *testing.T) {
	r := rand.New(rand.NewSource(9))
	at := []api.Level{lv(2, 5, 1), u(3), lv(1)}
	for i := range 4000 {
		d := leveled(family("D", "unit", "unit"), 2)
		d.Cons[0].Arg = goodArg(r, d, 1, 1+i%5)
		p := plainTerm(r, 3)
		tab := tableOf(d)
		own := []api.Level{u(0), u(1)}
		// What is put into the result would be put into the parameter as well.
		later, e1 := table.Arg(tab, "D", own, 0, p)
		later, e2 := term.SetLevels(later, at)
		set, e3 := term.SetLevels(p, at)
		before, e4 := table.Arg(tab, "D", at[:2], 0, set)
		if e1 != api.OK || e2 != api.OK || e3 != api.OK || e4 != api.OK || !equal(later, before) {
			t.Fatalf("Arg of %s for %s: %s, %s", text(d.Cons[0].Arg), text(p), text(later), text(before))
		}
		all, e := term.SetLevels(d.Cons[0].Arg, at)
		got, e5 := table.Arg(tab, "D", at[:2], 0, p)
		if e != api.OK || e5 != api.OK || !equal(got, term.Fill(all, []api.Term{p})) {
			t.Fatalf("Arg of %s for %s: %s", text(d.Cons[0].Arg), text(p), text(got))
		}
	}
}
