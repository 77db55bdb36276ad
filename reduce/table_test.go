package reduce_test

import (
	"math"
	"testing"

	"tenet/api"
	"tenet/reduce"
)

// anyTerm returns a term of at most some levels whose nodes may be anything.
func anyTerm(r random, levels int) api.Term {
	t := api.Term{Op: r.Intn(34) - 2, N: r.Intn(6) - 1, S: []string{"", "A", "B", "C", "9", "Nat"}[r.Intn(6)]}
	if r.Intn(3) == 0 {
		t.N = []int{-5, 1 << 31, 1<<31 + 1, math.MaxInt, math.MinInt}[r.Intn(5)]
	}
	for range r.Intn(3) {
		t.U = append(t.U, []api.Level{lv(0), lv(-1), u(0), lv(1, 1, 5), lv(1000)}[r.Intn(5)])
	}
	if levels > 1 {
		for range r.Intn(7) {
			t.L = append(t.L, anyTerm(r, levels-1))
		}
	}
	return t
}

// anyTable returns a table whose declarations are called A, B and C, and may be anything.
func anyTable(r random) api.Table {
	part := func() api.Term {
		if r.Intn(2) == 0 {
			return anyTerm(r, 4)
		}
		return r.term(3)
	}
	tab := basic()
	for range 5 {
		d := api.Decl{Name: string(rune('A' + r.Intn(3))), Kind: r.Intn(6), Levels: r.Intn(3) - 1, Type: part(), Body: part(), Param: part(), Over: lv(r.Intn(3) - 1), Sort: lv(1000 * r.Intn(2))}
		for range r.Intn(10) {
			d.Cons = append(d.Cons, api.Con{Name: "a", Arg: part()})
		}
		tab.Decls = append(tab.Decls, d)
	}
	return tab
}

// TestAnyTable: nothing panics, and all of it ends, for any table and any term.
func TestAnyTable(t *testing.T) {
	r := newRandom(7)
	for range 2000 {
		tab := anyTable(r)
		d := tab.Decls[len(tab.Decls)-1-r.Intn(5)]
		c := api.Term{Op: api.TConst, S: d.Name}
		data := api.Term{Op: api.TData, S: d.Name, L: []api.Term{parse("star")}}
		con := api.Term{Op: api.TCon, S: d.Name, N: r.Intn(3), L: []api.Term{parse("star"), parse("#0")}}
		elim := api.Term{Op: api.TElim, S: d.Name, L: []api.Term{parse("#0")}}
		for range len(d.Cons) % 9 {
			elim.L = append(elim.L, parse("(app 0 #0 #1)"))
		}
		elim.L = append(elim.L, parse("star"), con)
		for range max(0, d.Levels) {
			for _, s := range []*api.Term{&c, &data, &con, &elim} {
				s.U = append(s.U, lv(r.Intn(2)))
			}
		}
		for _, s := range []api.Term{
			c, con, elim, node(api.TApp, c, c), node(api.TFst, c), node(api.TFst, node(api.TSnd, c)),
			{Op: api.TEq, U: []api.Level{lv(0)}, L: []api.Term{data, con, con}},
			{Op: api.TEq, U: []api.Level{lv(0)}, L: []api.Term{c, c, con}},
			{Op: api.TEq, U: []api.Level{lv(0)}, L: []api.Term{parse("(type 0)"), c, data}},
			{Op: api.TCast, U: []api.Level{lv(0)}, L: []api.Term{data, data, c, con}},
			{Op: api.TCast, U: []api.Level{lv(0)}, L: []api.Term{c, c, c, c}},
			anyTerm(r, 4),
		} {
			runAll(t, tab, s)
		}
	}
}

// runAll calls all functions, and checks that they agree.
func runAll(t *testing.T, tab api.Table, s api.Term) {
	t.Helper()
	y, rule, ok := reduce.Step(tab, s)
	path, is := reduce.Place(tab, s)
	if ok != is || ok != (rule != 0) || reduce.IsHead(tab, s) == ok || reduce.Rule(tab, s) != rule || !ok && (!isZero(y) || len(path) > 0) {
		t.Fatalf("Step by %d, %v, Place %v, %v", rule, ok, path, is)
	}
	reduce.Former(s)
	h, n, e := reduce.Head(tab, s, 30)
	if e != api.OK && (n != 0 || !isZero(h)) {
		t.Fatalf("Head: %d, %v", n, e)
	}
	if e == api.OK {
		if x, e := reduce.Times(tab, s, n); e != api.OK || !equal(x, h) {
			t.Fatalf("Times %d: %v", n, e)
		}
		if !reduce.IsHead(tab, h) {
			t.Fatal("the head has a step")
		}
	}
	if x, n, e := reduce.Spine(tab, s, 30); e != api.OK && (n != 0 || !isZero(x)) {
		t.Fatalf("Spine: %d, %v", n, e)
	}
	if k, e := reduce.Numeral(tab, s, 30); e != api.OK && k != 0 {
		t.Fatalf("Numeral: %d, %v", k, e)
	}
}

// farTable is a table whose families have Args with variables that are too many, or too far away.
func farTable() api.Table {
	far := func(n int) api.Term { return variable(1<<31 + n) }
	box := family("Box", "unit", "unit", "unit", "unit", "unit")
	box.Cons[0].Arg = api.Term{Op: api.TPi, L: []api.Term{far(-1), {Op: api.TData, S: "Box", L: []api.Term{far(0)}}}}
	box.Cons[1].Arg = api.Term{Op: api.TSigma, L: []api.Term{{Op: api.TData, S: "Box", L: []api.Term{variable(1)}}, {Op: api.TPi, L: []api.Term{far(-2), {Op: api.TData, S: "Box", L: []api.Term{far(1)}}}}}}
	box.Cons[2].Arg = api.Term{Op: api.TPi, L: []api.Term{parse("?3"), {Op: api.TData, S: "Box", L: []api.Term{variable(-3)}}}}
	box.Cons[3].Arg = parse("(sig 0 (data @Box #3) (sig 0 (data @Box #1) (data @Box #2)))")
	body := define("body", "unit", "unit")
	body.Body = node(api.TApp, node(api.TLam, parse("unit"), node(api.TApp, far(0), far(2))), far(-1))
	return tableOf(box, body, family("Nat", "unit", "unit", "NAT"))
}

// TestFarVariables compares with steps that are done one by one, where numbers of variables are about the greatest one, or too great for the form.
func TestFarVariables(t *testing.T) {
	n := naive{farTable()}
	r := newRandom(8)
	for range 3000 {
		con := api.Term{Op: api.TCon, S: "Box", N: r.Intn(4), L: []api.Term{r.variable(), r.variable()}}
		elim := api.Term{Op: api.TElim, S: "Box", N: r.Intn(2), L: []api.Term{r.term(2)}}
		for range 4 {
			elim.L = append(elim.L, []api.Term{parse("(app 0 #0 #4)"), parse("(lam 0 #0 (app 0 #1 #2))"), parse("#0"), parse("(fst (snd #0))"), r.variable()}[r.Intn(5)])
		}
		elim.L = append(elim.L, parse("star"), con)
		s := node(api.TApp, node(api.TLam, parse("unit"), elim), r.variable())
		if r.Intn(3) == 0 {
			s = node(api.TApp, s, parse("@body"))
		}
		if r.Intn(9) == 0 {
			s = parse("@body")
		}
		sameHeads(t, n, s, r.Intn(12), map[int]int{})
	}
}

// variable returns a variable of a number that has its form.
func (r random) variable() api.Term {
	return variable([]int{0, 1, 3, 7, api.MaxNodes - 2, api.MaxNodes - 1, api.MaxNodes}[r.Intn(7)])
}

// TestFirstDeclarationCounts is about declarations with one name.
func TestFirstDeclarationCounts(t *testing.T) {
	tab := tableOf(define("x", "unit", "star"), define("x", "unit", "trivial"), family("D", "unit", "unit"), define("D", "unit", "star"), define("F", "unit", "star"), family("F", "unit", "unit"))
	runSteps(t, tab, []stepCase{
		{"@x", api.RUnfold, nil, "star"},
		{"(elim @D 0 unit #3 star (con @D 0 star star))", api.RCase, nil, "#0"},
		{from: "(elim @F 0 unit #3 star (con @F 0 star star))"},
		{from: "@D"},
		{"@F", api.RUnfold, nil, "star"},
	})
}
