package conv_test

import (
	"math/rand"
	"runtime/debug"
	"strings"
	"testing"

	"tenet/api"
	"tenet/conv"
	"tenet/term"
)

// answers checks the answer to a comparison of elements.
func answers(t *testing.T, name string, tab api.Table, ctx []api.Bind, typ, a, b api.Term, fuel int, want bool, code api.Errno) {
	t.Helper()
	if is, e := conv.Elements(tab, ctx, typ, a, b, fuel); is != want || e != code {
		t.Errorf("%s: %v, %v", name, is, e)
	}
}

// TestDeepTerms compares terms that differ behind thousands of levels.
func TestDeepTerms(t *testing.T) {
	tab, ctx, unit, nat := basic(), context("NAT", "NAT"), parse("unit"), parse("NAT")
	answers(t, "constructors", tab, ctx, nat, succ(9900, variable(0)), succ(9900, variable(1)), 0, false, api.OK)
	answers(t, "equal constructors", tab, ctx, nat, succ(9900, variable(0)), succ(9900, parse("(app 0 (lam 0 NAT #0) #0)")), 1, true, api.OK)
	pi := func(last string) api.Term { return nest(api.TPi, 9900, unit, parse(last)) }
	if is, e := conv.Types(tab, ctx, pi("unit"), pi("NAT"), 0); is || e != api.OK {
		t.Errorf("function types: %v, %v", is, e)
	}
	if is, e := conv.Types(tab, ctx, pi("NAT"), pi("(data @Nat #0)"), 0); !is || e != api.OK {
		t.Errorf("equal function types: %v, %v", is, e)
	}
	lam := func(last string) api.Term { return nest(api.TLam, 4000, unit, parse(last)) }
	answers(t, "functions", tab, ctx, nest(api.TPi, 4000, unit, nat), lam("ONE"), lam("@two"), 9000, false, api.OK)
	answers(t, "a function and a variable", tab, ctx, nest(api.TPi, 1500, unit, nat), nest(api.TLam, 1500, unit, parse("ZERO")), variable(0), 1500, false, api.OK)
	sig := nest(api.TSigma, 2000, unit, nat)
	answers(t, "pairs", tab, ctx, sig, variable(0), variable(1), 0, false, api.OK)
	answers(t, "equal pairs", tab, ctx, sig, nest2(2000, unit, nat, variable(0)), nest2(2000, unit, nat, parse("(app 0 (lam 0 NAT #0) #0)")), 5000, true, api.OK)
	f := nestOp(api.TFst, 9000, variable(0))
	answers(t, "projections", tab, ctx, nat, f, nestOp(api.TFst, 9000, variable(1)), 0, false, api.OK)
}

// nest2 returns n pairs of a star and the next pair, around a term.
func nest2(n int, unit, nat, last api.Term) api.Term {
	typ := nat
	for range n {
		last = node(api.TPair, unit, typ, parse("star"), last)
		typ = nat // the types of pairs are never looked at
	}
	return last
}

// TestTermsThatUnfoldDeeply compares numbers of the size 160000 with a stack that calls within calls would use up.
func TestTermsThatUnfoldDeeply(t *testing.T) {
	defer debug.SetMaxStack(debug.SetMaxStack(40 << 20))
	tab := with(basic(), define("id2", "(pi 0 NAT NAT)", "(lam 0 NAT #0)"))
	ctx := context("NAT", "NAT")
	times := func(n int, method, start api.Term) api.Term {
		return api.Term{Op: api.TElim, S: "Nat", L: []api.Term{parse("NAT"), up(start, 3), method, parse("star"), succ(n, parse("ZERO"))}}
	}
	successors := succ(400, variable(0))
	answers(t, "different", tab, ctx, parse("NAT"), times(400, successors, variable(0)), times(400, successors, variable(1)), api.MaxFuel, false, api.OK)
	answers(t, "equal", tab, ctx, parse("NAT"), times(400, successors, variable(0)), succ(1, times(400, successors, variable(0))), api.MaxFuel, false, api.OK)
	// Attempts within attempts, all of which succeed.
	calls := variable(0)
	for range 400 {
		calls = node(api.TApp, parse("@id2"), calls)
	}
	moved := parse("(app 0 (lam 0 NAT #0) #0)")
	answers(t, "attempts", tab, ctx, parse("NAT"), term.Fill(calls, []api.Term{parse("#0"), parse("#1")}), term.Fill(calls, []api.Term{moved, parse("#1")}), 1, true, api.OK)
}

// TestTypesThatGrow has parameters of families that are filled into each other: as trees, they have up to 2^3000 nodes.
func TestTypesThatGrow(t *testing.T) {
	products := family("E", "(type 0)", "#0", "(data @E (sig 0 #0 #1))")
	products.Over = lv(1)
	tab := with(basic(), family("D", "NAT", "unit", "(data @D (app 0 (app 0 @plus #0) #0))"), products)
	ctx := context("(data @D ZERO)", "(data @D ZERO)", "(data @E unit)", "NAT")
	chain := func(n int, name, p string, last api.Term) api.Term {
		for range n {
			last = api.Term{Op: api.TCon, S: name, N: 1, L: []api.Term{parse(p), last}}
		}
		return last
	}
	d := parse("(data @D ZERO)")
	a, b := chain(3000, "D", "ZERO", variable(3)), chain(3000, "D", "ZERO", variable(2))
	answers(t, "different", tab, ctx, d, a, b, 0, false, api.OK)
	answers(t, "equal", tab, ctx, d, a, chain(3000, "D", "ZERO", node(api.TApp, node(api.TLam, d, variable(0)), variable(3))), 1, true, api.OK)
	// Also where such a type is a part of one that is looked at.
	lists := with(basic(), family("L", "NAT", "unit", "(sig 0 NAT (data @L (app 0 (app 0 @plus #1) #1)))"))
	list := func(n int, last api.Term) api.Term {
		for range n {
			l := parse("(data @L ZERO)")
			last = api.Term{Op: api.TCon, S: "L", N: 1, L: []api.Term{parse("ZERO"), node(api.TPair, parse("NAT"), l, parse("ONE"), last)}}
		}
		return last
	}
	answers(t, "lists", lists, context("(data @L ZERO)", "(data @L ZERO)"), parse("(data @L ZERO)"), list(1000, variable(0)), list(1000, variable(1)), 2000, false, api.OK)
	// What would have to be taken apart into too many pairs has no answer, but the comparison ends.
	leaf := func(x api.Term) api.Term { return api.Term{Op: api.TCon, S: "E", L: []api.Term{parse("unit"), x}} }
	for _, x := range []struct {
		n    int
		want bool
		code api.Errno
	}{{13, true, api.OK}, {60, false, api.ErrFuel}} {
		answers(t, "products", tab, ctx, parse("(data @E unit)"), chain(x.n, "E", "unit", leaf(variable(0))), chain(x.n, "E", "unit", leaf(variable(1))), api.MaxFuel, x.want, x.code)
	}
}

// TestTypesThatUnfoldDeeply has types of 120000 levels, which take few steps.
func TestTypesThatUnfoldDeeply(t *testing.T) {
	defer debug.SetMaxStack(debug.SetMaxStack(200 << 20))
	for _, op := range []int{api.TPi, api.TSigma} {
		method := nest(op, 1000, parse("unit"), variable(1000)) // around the hypothesis
		typ := api.Term{Op: api.TElim, S: "Nat", L: []api.Term{parse("(type 0)"), parse("NAT"), method, parse("star"), succ(120, parse("ZERO"))}}
		is, e := conv.Elements(basic(), []api.Bind{{Type: parse("unit")}, {Type: parse("unit")}}, typ, variable(0), variable(1), api.MaxFuel)
		if is || e != api.ErrFuel && e != api.OK {
			t.Errorf("the Op %d: %v, %v", op, is, e)
		}
	}
}

// applied returns a function applied to an argument that is made of a term, with so many nodes in all.
func applied(nodes int, f, last api.Term) api.Term {
	out := node(api.TApp, f, last)
	missing := nodes - size(out)
	out.L[1] = nestOp(api.TFst, missing%2, succ(missing/2, last))
	return out
}

// TestLargeFunctions applies functions that have as many nodes as arguments may have: what is compared then is larger.
func TestLargeFunctions(t *testing.T) {
	ctx, typ := context("(pi 0 NAT (pi 0 NAT NAT))", "NAT", "NAT"), parse("(pi 0 NAT NAT)")
	answers(t, "stuck", basic(), ctx, typ, applied(api.MaxTerm, variable(2), variable(1)), applied(api.MaxTerm, variable(2), variable(0)), 0, false, api.OK)
	redex := parse("(app 0 (lam 0 NAT #3) #1)")
	a, b := applied(api.MaxTerm, redex, variable(1)), applied(api.MaxTerm, variable(2), variable(1))
	answers(t, "with a step", basic(), ctx, typ, a, applied(api.MaxTerm, redex, variable(0)), 10, false, api.OK)
	answers(t, "with another step", basic(), ctx, typ, a, applied(api.MaxTerm-2, variable(2), variable(1)), 10, false, api.OK)
	answers(t, "itself", basic(), ctx, typ, b, applied(api.MaxTerm, variable(2), variable(1)), 0, true, api.OK)
	halves := parse("(lam 0 NAT (pair 0 NAT NAT ZERO #0))")
	pairs := parse("(sig 0 NAT NAT)")
	answers(t, "projected", basic(), ctx, pairs, applied(api.MaxTerm, halves, variable(1)), applied(api.MaxTerm, halves, variable(0)), 20, false, api.OK)
	f := applied(api.MaxTerm-5, variable(2), variable(1))
	expanded := node(api.TLam, parse("NAT"), node(api.TApp, up(f, 1), variable(0)))
	answers(t, "an expansion", basic(), ctx, typ, f, expanded, 1, true, api.OK)
}

// TestLargeNeutralTypes compares elements of types that nothing is known of, and that have more nodes than terms of steps have.
func TestLargeNeutralTypes(t *testing.T) {
	tab := with(basic(), assume("family", "(pi 0 NAT (type 0))"))
	for _, f := range []string{"#3", "@family"} {
		in := func(up string) string { // the type for a number, under some binders more
			return "(app 0 " + strings.ReplaceAll(f, "#3", up) + " (app 0 (app 0 @plus #0) (app 0 (app 0 @plus #0) #0)))"
		}
		ctx := context("(pi 0 NAT (type 0))", "NAT", "(pi 0 NAT "+in("#2")+")", "(pi 0 NAT "+in("#3")+")", "(pi 0 NAT (pi 0 "+in("#4")+" NAT))")
		use := func(n int, last string) api.Term {
			number := succ(4000, parse(last))
			return node(api.TApp, node(api.TApp, variable(0), succ(4000, variable(3))), node(api.TApp, variable(n), number))
		}
		answers(t, "different", tab, ctx, parse("NAT"), use(2, "#3"), use(1, "#3"), 0, false, api.OK)
		answers(t, "equal", tab, ctx, parse("NAT"), use(2, "#3"), use(2, "(app 0 (lam 0 NAT #0) #3)"), 1, true, api.OK)
	}
}

// formed makes terms that have their form, but no sense mostly.
func formed(r *rand.Rand, n int) api.Term {
	leaves := []string{"#0", "#1", "#2", "star", "unit", "prop", "true", "false", "trivial", "NAT", "ZERO", "@plus", "@two", "@Fun", "@hidden", "@id{0}", "@any{u0}", "(type 0)", "(type u0)", "@lost", "?1", "proof"}
	if n <= 0 {
		return parse(leaves[r.Intn(len(leaves))])
	}
	families := []struct {
		name    string
		methods int
	}{{"Nat", 2}, {"Bool", 2}, {"Vec", 2}, {"List", 2}, {"None", 0}, {"Lost", 1}}
	f := families[r.Intn(len(families))]
	shapes := []struct{ op, parts, marks int }{
		{api.TPi, 2, 4}, {api.TLam, 2, 2}, {api.TApp, 2, 2}, {api.TApp, 2, 2}, {api.TSigma, 2, 4}, {api.TPair, 4, 4}, {api.TFst, 1, 1}, {api.TSnd, 1, 1},
		{api.TAbsurd, 2, 2}, {api.TEq, 3, 1}, {api.TRefl, 2, 1}, {api.TSubst, 6, 1}, {api.TCast, 4, 1}, {api.TCoh, 3, 1}, {api.TQuo, 5, 1}, {api.TClass, 2, 1}, {api.TOut, 5, 2},
		{api.TData, 1, 1}, {api.TCon, 2, 3}, {api.TElim, f.methods + 3, 2}, {api.TElim, f.methods + 3, 1},
	}
	s := shapes[r.Intn(len(shapes))]
	t := api.Term{Op: s.op, N: r.Intn(s.marks)}
	switch s.op {
	case api.TEq, api.TRefl, api.TSubst, api.TCast, api.TCoh, api.TQuo, api.TOut:
		t.U = []api.Level{lv(r.Intn(2))}
	case api.TData, api.TCon, api.TElim:
		t.S = f.name
	}
	for range s.parts {
		t.L = append(t.L, formed(r, n-1-r.Intn(2)))
	}
	return t
}

// TestTermsWithoutSense: for terms that have their form there is always an answer, or not enough fuel.
func TestTermsWithoutSense(t *testing.T) {
	r := rand.New(rand.NewSource(13))
	ctx := context("(pi 0 NAT NAT)", "(sig 0 NAT #0)", "NAT")
	tab, found := basic(), map[api.Errno]int{}
	for range 8000 {
		typ, a, b := formed(r, 3), formed(r, 4), formed(r, 4)
		if r.Intn(2) == 0 {
			b = put(r, a, formed(r, 2))
		}
		if term.Free(typ) > 3 || term.Free(a) > 3 || term.Free(b) > 3 {
			continue
		}
		for _, fuel := range []int{0, 5, 400} {
			is, e1 := conv.Elements(tab, ctx, typ, a, b, fuel)
			same, e2 := conv.Types(tab, ctx, a, b, fuel)
			s, equal, e3 := conv.Neutral(tab, ctx, a, b, fuel)
			for _, e := range []api.Errno{e1, e2, e3} {
				found[e]++
				if e != api.OK && e != api.ErrFuel {
					t.Fatalf("%s and %s of %s: %v", text(a), text(b), text(typ), e)
				}
			}
			if is && e1 != api.OK || same && e2 != api.OK || equal != (s.Op != 0) || equal && e3 != api.OK {
				t.Fatalf("%s and %s of %s: an answer and an error", text(a), text(b), text(typ))
			}
		}
	}
	if found[api.OK] < 1000 || found[api.ErrFuel] < 500 {
		t.Errorf("answers: %v", found)
	}
}

// TestTermsWithoutEnd have heads that are never reached.
func TestTermsWithoutEnd(t *testing.T) {
	w := parse("(lam 0 NAT (app 0 #0 #0))")
	omega := node(api.TApp, w, w)
	grow := parse("(lam 0 NAT (con @Nat 1 star (app 0 #0 #0)))")
	numbers := node(api.TApp, grow, grow)
	loop := define("loop", "NAT", "@loop")
	next := define("next", "NAT", "(con @Nat 1 star (con @Nat 1 star @next))")
	again := define("again", "NAT", "(con @Nat 1 star @again)")
	functions := define("functions", "(type 0)", "(pi 0 unit @functions)")
	tab := with(basic(), loop, next, again, functions)
	for _, x := range [][3]api.Term{
		{parse("NAT"), omega, parse("ZERO")}, {parse("NAT"), numbers, succ(1, omega)}, {omega, parse("ZERO"), parse("ONE")},
		{parse("NAT"), parse("@loop"), parse("ZERO")}, {parse("NAT"), parse("@next"), parse("@again")}, {parse("@functions"), parse("@plus"), parse("@times")},
	} {
		for _, fuel := range []int{100, api.MaxFuel} {
			if is, e := conv.Elements(tab, nil, x[0], x[1], x[2], fuel); is || e != api.ErrFuel && e != api.OK {
				t.Errorf("%s and %s: %v, %v", text(x[1]), text(x[2]), is, e)
			}
		}
	}
}

// TestTablesWithoutForm: whatever a table is, there is an answer.
func TestTablesWithoutForm(t *testing.T) {
	r := rand.New(rand.NewSource(14))
	for range 3000 {
		tab := basic()
		for i := range tab.Decls {
			d := &tab.Decls[i]
			if r.Intn(3) == 0 {
				d.Body, d.Type = loose(r, 3), loose(r, 3)
			}
			if r.Intn(3) == 0 {
				d.Param, d.Kind, d.Levels = loose(r, 3), r.Intn(5), r.Intn(2)
			}
			for k := range d.Cons {
				if r.Intn(3) == 0 {
					d.Cons[k].Arg = loose(r, 3)
				}
			}
		}
		typ, a, b := formed(r, 2), formed(r, 3), formed(r, 3)
		conv.Elements(tab, context("NAT", "@Fun", "(data @Vec #0)"), typ, a, b, 200)
		conv.Types(tab, context("NAT", "@Fun", "(data @Vec #0)"), a, b, 200)
		conv.Neutral(tab, context("NAT", "@Fun", "(data @Vec #0)"), a, b, 200)
	}
}
