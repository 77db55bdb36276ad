package table_test

import (
	"math/rand"
	"strings"
	"testing"

	"tenet/api"
	"tenet/table"
	"tenet/term"
)

// P4.4

// part is a part of an Arg: as it is declared, and with levels and parameter put in.
type part struct {
	declared, now api.Term
}

// at returns the part of a part, filled with terms.
func (x part) at(i int, by ...api.Term) part {
	return part{x.declared.L[i], term.Fill(x.now.L[i], by)}
}

// under is part for what lies under a binder that stays.
func (x part) under(i int) part {
	return part{x.declared.L[i], x.now.L[i]}
}

// counts reports which of the cases of H and V a part is: plain, too, where it is no argument type.
func (x part) counts(d api.Decl) int {
	if !occurs(d.Name, x.declared) || !isArgument(d, x.declared) {
		return api.TUnit
	}
	return x.declared.Op
}

func shift(t api.Term, by int) api.Term {
	up, ok := term.Shift(t, by, 0)
	if !ok {
		panic("no shift")
	}
	return up
}

// apply is an element of a function type applied to the variable that is bound last.
func apply(x part, a api.Term) api.Term {
	return api.Term{Op: api.TApp, N: x.now.N & 1, L: []api.Term{shift(a, 1), {Op: api.TVar}}}
}

// pick returns one of two numbers, the second one if the motive is a proposition.
func pick(e api.Term, a, b int) int {
	if e.N == 1 {
		return b
	}
	return a
}

// hypotheses is H, step by step as the chapter says it.
func hypotheses(d api.Decl, x part, a, e api.Term) api.Term {
	switch x.counts(d) {
	case api.TData:
		return term.Fill(e.L[0], []api.Term{a, x.now.L[0]})
	case api.TPi:
		return api.Term{Op: api.TPi, N: x.now.N&1 | pick(e, 0, 2), L: []api.Term{x.now.L[0], hypotheses(d, x.under(1), apply(x, a), shift(e, 1))}}
	case api.TSigma:
		first, second := node(api.TFst, a), node(api.TSnd, a)
		return api.Term{Op: api.TSigma, N: pick(e, 0, 3), L: []api.Term{hypotheses(d, x.under(0), first, e), shift(hypotheses(d, x.at(1, first), second, e), 1)}}
	}
	return node(pick(e, api.TUnit, api.TTrue))
}

// values is V, step by step as the chapter says it.
func values(d api.Decl, x part, a, e api.Term) api.Term {
	switch x.counts(d) {
	case api.TData:
		v := cloned(e)
		n := len(v.L)
		v.L[n-2], v.L[n-1] = x.now.L[0], a
		return v
	case api.TPi:
		return api.Term{Op: api.TLam, N: x.now.N & 1, L: []api.Term{x.now.L[0], values(d, x.under(1), apply(x, a), shift(e, 1))}}
	case api.TSigma:
		h := hypotheses(d, x, a, e)
		first, second := node(api.TFst, a), node(api.TSnd, a)
		return api.Term{Op: api.TPair, N: h.N, L: []api.Term{h.L[0], h.L[1], values(d, x.under(0), first, e), values(d, x.at(1, first), second, e)}}
	}
	return node(pick(e, api.TStar, api.TTrivial))
}

// whole is the argument type of a constructor.
func whole(t *testing.T, d api.Decl, u []api.Level, k int, p api.Term) part {
	t.Helper()
	set, e := term.SetLevels(d.Cons[k].Arg, u)
	if e != api.OK {
		t.Fatalf("SetLevels: %v", e)
	}
	return part{d.Cons[k].Arg, term.Fill(set, []api.Term{p})}
}

// induct is a case of Hypotheses and Values.
type induct struct {
	arg, elim, p, a string
	h, v            string
}

func (x induct) run(t *testing.T, d api.Decl) {
	t.Helper()
	tab := with(basic(), d)
	e, p, a := parse(x.elim), parse(x.p), parse(x.a)
	h, code := table.Hypotheses(tab, e, 0, p, a)
	if code != api.OK || !equal(h, parse(x.h)) {
		t.Errorf("Hypotheses of %s by %s: %s, %v, want %s", x.arg, x.elim, text(h), code, x.h)
	}
	v, code := table.Values(tab, e, 0, p, a)
	if code != api.OK || !equal(v, parse(x.v)) {
		t.Errorf("Values of %s by %s: %s, %v, want %s", x.arg, x.elim, text(v), code, x.v)
	}
}

func TestHypothesesAndValues(t *testing.T) {
	// The motive tells of the parameter, the element and an outer variable.
	const motive, method = "(app 0 (app 0 #4 #1) #0)", "(app 0 (app 0 (app 0 #0 #1) #2) #3)"
	elim, proof := "(elim @D 0 "+motive+" "+method+" #6 #7)", "(elim @D 1 "+motive+" "+method+" #6 #7)"
	up := func(kind string) string {
		return "(elim @D " + kind + " (app 0 (app 0 #5 #1) #0) (app 0 (app 0 (app 0 #0 #1) #2) #4) "
	}
	same := func(kind string) string { return "(elim @D " + kind + " " + motive + " " + method + " " }
	const snd, app = "(snd #9)", "(app 0 #10 #0)"
	for _, x := range []induct{
		{"unit", elim, "star", "#9", "unit", "star"},
		{"unit", proof, "star", "#9", "true", "trivial"},
		{"(sig 0 #0 (pi 0 #1 unit))", elim, "star", "#9", "unit", "star"},
		{"(data @D #0)", elim, "#8", "#9", "(app 0 (app 0 #2 #8) #9)", same("0") + "#8 #9)"},
		{"(data @D #0)", proof, "#8", "#9", "(app 0 (app 0 #2 #8) #9)", same("1") + "#8 #9)"},
		{"(data @D (fst #0))", elim, "(snd #3)", "#9", "(app 0 (app 0 #2 (fst (snd #3))) #9)", same("0") + "(fst (snd #3)) #9)"},
		{"(pi 0 #0 (data @D #1))", elim, "#8", "#9", "(pi 0 #8 (app 0 (app 0 #3 #9) " + app + "))", "(lam 0 #8 " + up("0") + "#9 " + app + "))"},
		{"(pi 0 #0 (data @D #0))", elim, "#8", "#9", "(pi 0 #8 (app 0 (app 0 #3 #0) " + app + "))", "(lam 0 #8 " + up("0") + "#0 " + app + "))"},
		{"(pi 1 #0 (data @D #0))", elim, "#8", "#9", "(pi 1 #8 (app 0 (app 0 #3 #0) (app 1 #10 #0)))", "(lam 1 #8 " + up("0") + "#0 (app 1 #10 #0)))"},
		{"(pi 0 #0 (data @D #0))", proof, "#8", "#9", "(pi 2 #8 (app 0 (app 0 #3 #0) " + app + "))", "(lam 0 #8 " + up("1") + "#0 " + app + "))"},
		{"(pi 1 #0 (data @D #0))", proof, "#8", "#9", "(pi 3 #8 (app 0 (app 0 #3 #0) (app 1 #10 #0)))", "(lam 1 #8 " + up("1") + "#0 (app 1 #10 #0)))"},
		{"(sig 0 unit (data @D #0))", elim, "#8", "#9", "(sig 0 unit (app 0 (app 0 #3 (fst #10)) (snd #10)))", "(pair 0 unit (app 0 (app 0 #3 (fst #10)) (snd #10)) star " + same("0") + "(fst #9) " + snd + "))"},
		{"(sig 1 true (data @D #1))", elim, "#8", "#9", "(sig 0 unit (app 0 (app 0 #3 #9) (snd #10)))", "(pair 0 unit (app 0 (app 0 #3 #9) (snd #10)) star " + same("0") + "#8 " + snd + "))"},
		{"(sig 2 (data @D #0) true)", elim, "#8", "#9", "(sig 0 (app 0 (app 0 #2 #8) (fst #9)) unit)", "(pair 0 (app 0 (app 0 #2 #8) (fst #9)) unit " + same("0") + "#8 (fst #9)) star)"},
		{"(sig 2 (data @D #0) true)", proof, "#8", "#9", "(sig 3 (app 0 (app 0 #2 #8) (fst #9)) true)", "(pair 3 (app 0 (app 0 #2 #8) (fst #9)) true " + same("1") + "#8 (fst #9)) trivial)"},
	} {
		x.run(t, family("D", "unit", x.arg))
	}
}

func TestHypothesesUnderBinders(t *testing.T) {
	for _, x := range []induct{
		{"(pi 0 unit (pi 1 #1 (data @D (app 0 #0 #1))))", "(elim @D 0 (app 0 #1 #0) #3 star star)", "#5", "#6", "(pi 0 unit (pi 1 #6 (app 0 (app 0 #0 #1) (app 1 (app 0 #8 #1) #0))))", "(lam 0 unit (lam 1 #6 (elim @D 0 (app 0 #1 #0) #5 (app 0 #0 #1) (app 1 (app 0 #8 #1) #0))))"},
		{"(sig 0 #0 (pi 0 #0 (data @D (app 0 #1 #2))))", "(elim @D 0 (pi 0 #1 #1) #3 star star)", "#5", "#6", "(sig 0 unit (pi 0 (fst #7) (pi 0 (app 0 (fst #8) #7) (app 0 (snd #9) #1))))", "(pair 0 unit (pi 0 (fst #7) (pi 0 (app 0 (fst #8) #7) (app 0 (snd #9) #1))) star (lam 0 (fst #6) (elim @D 0 (pi 0 #1 #1) #4 (app 0 (fst #7) #6) (app 0 (snd #7) #0))))"},
		{"(pi 0 unit (sig 0 #1 (data @D (app 0 #1 #0))))", "(elim @D 0 (app 0 #1 #0) #3 star star)", "#5", "#6", "(pi 0 unit (sig 0 unit (app 0 (app 0 #1 (fst (app 0 #8 #1))) (snd (app 0 #8 #1)))))", "(lam 0 unit (pair 0 unit (app 0 (app 0 #1 (fst (app 0 #8 #1))) (snd (app 0 #8 #1))) star (elim @D 0 (app 0 #1 #0) #4 (app 0 #0 (fst (app 0 #7 #0))) (snd (app 0 #7 #0)))))"},
		// A value under a binder of the domain, behind two function and pair types.
		{"(sig 0 unit (pi 0 unit (sig 0 unit (pi 0 (lam 0 unit #1) SELF))))", "(elim @D 0 #3 star star star)", "#5", "#6", "(sig 0 unit (pi 0 unit (sig 0 unit (pi 0 (lam 0 unit (fst (app 0 (snd #10) #2))) #5))))", "(pair 0 unit (pi 0 unit (sig 0 unit (pi 0 (lam 0 unit (fst (app 0 (snd #10) #2))) #5))) star (lam 0 unit (pair 0 unit (pi 0 (lam 0 unit (fst (app 0 (snd #9) #2))) #4) star (lam 0 (lam 0 unit (fst (app 0 (snd #8) #1))) (elim @D 0 #5 star star (app 0 (snd (app 0 (snd #8) #1)) #0))))))"},
	} {
		x.run(t, family("D", "unit", x.arg))
	}
}

func TestHypothesesOfLevels(t *testing.T) {
	d := leveled(family("D", "unit", "(pi 0 (type u1) (data @D{u0;u1} (type u0)))"), 2)
	tab := with(basic(), d)
	e := parse("(elim @D{u4+1;7} 0 (app 0 #1 (type u0)) (type u1) star star)")
	h, code := table.Hypotheses(tab, e, 0, parse("(type u2)"), parse("#0"))
	isTerm(t, "Hypotheses", h, code, "(pi 0 (type 7) (app 0 (type u4+1) (type u0)))", api.OK)
	v, code := table.Values(tab, e, 0, parse("(type u2)"), parse("#0"))
	isTerm(t, "Values", v, code, "(lam 0 (type 7) (elim @D{u4+1;7} 0 (app 0 #1 (type u0)) (type u1) (type u4+1) (app 0 #1 #0)))", api.OK)
}

func TestHypothesesOfTheDeclaredArg(t *testing.T) {
	elim, proof := "(elim @D 0 #0 #3 star star)", "(elim @D 1 #0 #3 star star)"
	for _, x := range []induct{
		// The family within the parameter does not count.
		{"#0", elim, "(data @D star)", "#1", "unit", "star"},
		{"(sig 0 #0 (data @D star))", elim, "(data @D star)", "#1", "(sig 0 unit (snd #2))", "(pair 0 unit (snd #2) star (elim @D 0 #0 #3 star (snd #1)))"},
		{"(pi 0 #0 (data @D star))", elim, "(data @D star)", "#1", "(pi 0 (data @D star) (app 0 #2 #0))", "(lam 0 (data @D star) (elim @D 0 #0 #4 star (app 0 #2 #0)))"},
		{"(data @D #0)", elim, "(data @D star)", "#1", "#1", "(elim @D 0 #0 #3 (data @D star) #1)"},
		{"(pi 2 unit #1)", proof, "(data @D star)", "#1", "true", "trivial"},
		// A constant with the name of the family is no occurrence of it.
		{"@D", elim, "star", "#1", "unit", "star"}, {"(pi 0 @D unit)", proof, "star", "#1", "true", "trivial"}, {"(data @D @D)", elim, "star", "#1", "#1", "(elim @D 0 #0 #3 @D #1)"}, {"(pi 0 @D (data @D star))", elim, "star", "#1", "(pi 0 @D (app 0 #2 #0))", "(lam 0 @D (elim @D 0 #0 #4 star (app 0 #2 #0)))"}, {"(sig 1 @D (data @D star))", elim, "star", "#1", "(sig 0 unit (snd #2))", "(pair 0 unit (snd #2) star (elim @D 0 #0 #3 star (snd #1)))"},
		// What is no argument type counts as plain.
		{"(pi 0 (data @D star) unit)", elim, "star", "#1", "unit", "star"}, {"(pi 2 unit (data @D star))", elim, "star", "#1", "unit", "star"}, {"(app 0 #0 (data @D star))", proof, "star", "#1", "true", "trivial"}, {"(data @D (data @D star))", elim, "star", "#1", "unit", "star"}, {"(data @D{0} star)", elim, "star", "#1", "unit", "star"}, {"(con @D 0 star star)", elim, "star", "#1", "unit", "star"},
		{"(sig 1 (data @D star) unit)", elim, "star", "#1", "unit", "star"}, {"(sig 2 (data @D star) (data @D star))", elim, "star", "#1", "unit", "star"}, {"(sig 0 (data @D star) (data @D #0))", elim, "star", "#1", "unit", "star"}, {"(sig 0 (data @D star) (app 0 #1 #0))", elim, "star", "#1", "unit", "star"},
	} {
		x.run(t, family("D", "unit", x.arg))
	}
}

// TestHypothesesAroundNoArgumentType has pair and function types around a part that is no argument type: they are none either.
func TestHypothesesAroundNoArgumentType(t *testing.T) {
	bad := []string{"(fst (data @D star))", "(pi 0 (data @D star) unit)", "(pi 2 unit (data @D star))", "(data @D (data @D star))", "(data @D{0} star)", "(con @D 0 star star)", "(sig 1 (data @D star) unit)", "(sig 2 unit (data @D star))", "(sig 0 (data @D star) (data @D #0))"}
	around := []string{"BAD", "(sig 0 (data @D star) BAD)", "(sig 0 BAD (data @D star))", "(sig 0 unit BAD)", "(sig 0 BAD unit)", "(sig 0 BAD BAD)", "(pi 0 unit BAD)", "(pi 1 unit BAD)", "(pi 0 unit (pi 1 unit BAD))", "(sig 0 (sig 0 (data @D star) unit) (pi 0 unit (sig 0 unit BAD)))", "(sig 0 (pi 0 unit (sig 0 BAD (data @D star))) (data @D star))"}
	for _, x := range bad {
		for _, y := range around {
			d := family("D", "unit", strings.ReplaceAll(y, "BAD", x))
			induct{y, "(elim @D 0 #0 #3 star star)", "star", "#1", "unit", "star"}.run(t, d)
			induct{y, "(elim @D 1 #0 #3 star star)", "star", "#1", "true", "trivial"}.run(t, d)
		}
	}
	// Another constructor has its hypotheses all the same.
	tab := tableOf(family("D", "unit", "(pi 0 unit (data @D star))", "(sig 0 (data @D star) (fst (data @D star)))"))
	e := parse("(elim @D 0 #0 star star star star)")
	for k, want := range []string{"(pi 0 unit (app 0 #2 #0))", "unit"} {
		h, code := table.Hypotheses(tab, e, k, parse("star"), parse("#1"))
		isTerm(t, "Hypotheses", h, code, want, api.OK)
	}
}

func TestHypothesesTellErrors(t *testing.T) {
	d := leveled(family("D", "unit", "(type u0)", "(data @D{u0} star)", "(type u0+1)"), 1)
	odd := leveled(family("Odd", "unit", "(type u0)"), 1)
	odd.Cons[0].Arg.U[0] = lv(-1)
	tab := with(basic(), d, odd)
	for _, x := range []struct {
		e    string
		k    int
		want api.Errno
	}{
		{"(elim @D{0} 0 star star star star star star)", 0, api.OK}, {"(elim @D{0} 1 star star star star star star)", 2, api.OK},
		{"star", 0, api.ErrForm}, {"(data @D{0} star)", 0, api.ErrForm}, {"(con @D{0} 0 star star)", 0, api.ErrForm}, {"@none", -1, api.ErrForm},
		{"(elim @none 0 star star star)", 0, api.ErrName}, {"(elim @plus 0 star star star)", 9, api.ErrName}, {"(elim @claimed{0} 0 star star star)", 0, api.ErrName},
		{"(elim @D 0 star star star star star star)", 0, api.ErrArity}, {"(elim @D{0;0} 0 star star star star star star)", 0, api.ErrArity}, {"(elim @D{0} 0 star star star star star star)", 3, api.ErrArity}, {"(elim @D{0} 0 star star star star star star)", -1, api.ErrArity},
		{"(elim @D{0} 0 star star star star star)", 0, api.ErrArity}, {"(elim @D{0} 0 star star star star star star star)", 0, api.ErrArity}, {"(elim @D{0} 0 star star star)", 1, api.ErrArity}, {"(elim @D{1000} 0 star star star star star)", 0, api.ErrArity},
		{"(elim @D{1000} 0 star star star star star star)", 2, api.ErrLimit}, {"(elim @D{1000} 0 star star star)", 2, api.ErrLimit}, {"(elim @D{1000} 0 star star star star star star)", 1, api.OK},
		{"(elim @Odd{0} 0 star star star)", 0, api.ErrForm}, {"(elim @Odd{0} 0 star star star)", 1, api.ErrArity},
	} {
		h, code := table.Hypotheses(tab, parse(x.e), x.k, parse("star"), parse("star"))
		if code != x.want || isZero(h) == (code == api.OK) {
			t.Errorf("Hypotheses of %s, %d: %s, %v, want %v", x.e, x.k, text(h), code, x.want)
		}
		v, code := table.Values(tab, parse(x.e), x.k, parse("star"), parse("star"))
		if code != x.want || isZero(v) == (code == api.OK) {
			t.Errorf("Values of %s, %d: %s, %v, want %v", x.e, x.k, text(v), code, x.want)
		}
	}
	good := parse("(elim @Nat 0 star star star star star)")
	for i := range good.L {
		bad := cloned(good)
		bad.L[i] = node(api.TFst)
		if _, code := table.Hypotheses(tab, bad, 0, parse("star"), parse("star")); code != api.ErrForm {
			t.Errorf("Hypotheses of an eliminator without its form: %v", code)
		}
		if _, code := table.Values(tab, bad, 9, parse("star"), parse("star")); code != api.ErrForm {
			t.Errorf("Values of an eliminator without its form: %v", code)
		}
	}
}

// TestHypothesesTakeAnyTerms hands in parameters and elements without their form.
func TestHypothesesTakeAnyTerms(t *testing.T) {
	tab := with(basic(), family("D", "unit", "(pi 0 unit (data @D #1))"))
	odd := api.Term{Op: 77, N: -3, S: "?", U: []api.Level{lv(-1, 5, 5)}, L: []api.Term{{Op: api.TVar, N: 2}, {Op: api.TVar, N: -2}, {Op: api.TVar, N: 1 << 40}, {Op: api.TVar, N: 1 << 31}, {Op: api.TVar, N: 1<<31 + 1}, {Op: api.TVar, N: 4, L: []api.Term{{Op: api.TVar, N: 1}}}}}
	up := shift(odd, 1)
	h, code := table.Hypotheses(tab, parse("(elim @D 0 (app 0 #0 #1) star star star)"), 0, odd, odd)
	want := node(api.TPi, parse("unit"), node(api.TApp, node(api.TApp, up, parse("#0")), up))
	if code != api.OK || !equal(h, want) {
		t.Errorf("Hypotheses: %+v, %v, want %+v", h, code, want)
	}
}

// TestHypothesesAreTheDefinition compares with the definition, for families that are positive and others.
func TestHypothesesAreTheDefinition(t *testing.T) {
	r := rand.New(rand.NewSource(5))
	elims := []string{"(elim @D 0 (app 0 (app 0 #1 #0) #2) #3 #0 #5 #1)", "(elim @D 1 (pi 0 #1 (app 0 #1 (lam 0 unit #4))) (app 0 #2 #4) #3 star star)", "(elim @D 0 unit (type u0) #4 star star)", "(elim @D 1 #0 #0 #4 star star)"}
	kinds := map[int]int{}
	for i := range 20000 {
		d := leveled(family("D", "unit", "unit", "unit"), r.Intn(3))
		d.Cons[1].Arg = goodArg(r, d, 1, 1+i%5)
		if i%4 == 0 {
			d.Cons[1].Arg = anyArg(r, d, 1+i%6)
		}
		e := parse(elims[r.Intn(len(elims))])
		e.U = []api.Level{lv(2, 3, 1), u(4)}[:d.Levels]
		p, a := plainTerm(r, 4), plainTerm(r, 4)
		if r.Intn(4) == 0 {
			p = itself(d, p)
		}
		if r.Intn(3) == 0 {
			p, a, d.Cons[1].Arg = far(r, p, 0), far(r, a, 0), far(r, d.Cons[1].Arg, r.Intn(2))
		}
		tab := tableOf(assume("E", "prop"), d)
		x := whole(t, d, e.U, 1, p)
		want := hypotheses(d, x, a, e)
		kinds[want.Op]++
		if h, code := table.Hypotheses(tab, e, 1, p, a); code != api.OK || !equal(h, want) {
			t.Fatalf("Hypotheses for %+v by %s: %s, %v, want %s", d.Cons[1].Arg, text(e), text(h), code, text(want))
		}
		want = values(d, x, a, e)
		if v, code := table.Values(tab, e, 1, p, a); code != api.OK || !equal(v, want) {
			t.Fatalf("Values for %+v by %s: %s, %v, want %s", d.Cons[1].Arg, text(e), text(v), code, text(want))
		}
	}
	for _, op := range []int{api.TPi, api.TSigma, api.TUnit, api.TTrue, api.TApp} {
		if kinds[op] < 100 {
			t.Errorf("%d of the hypotheses have the Op %d", kinds[op], op)
		}
	}
}

// farTerm reads a term in which ?10 stands for the greatest variable, and the other holes for the numbers before and behind it.
func farTerm(s string) api.Term {
	var set func(t api.Term) api.Term
	set = func(t api.Term) api.Term {
		if t.Op == api.THole {
			return api.Term{Op: api.TVar, N: 1<<31 - 10 + t.N}
		}
		for i := range t.L {
			t.L[i] = set(t.L[i])
		}
		return t
	}
	return set(parse(s))
}

// TestHypothesesOfFarVariables has variables that become greater than 2^31 by one step, and are no variables for the next one.
func TestHypothesesOfFarVariables(t *testing.T) {
	const self, element, parameter, both = "(data @D star)", "#0", "#1", "(pi 0 unit (pi 0 #1 #3))"
	for _, x := range []struct {
		arg, motive, p, a string
		h, v              string
	}{
		// The element, shifted by one under each function type.
		{"(pi 0 unit " + self + ")", element, "star", "?10", "(pi 0 unit (app 0 ?11 #0))", "(lam 0 unit (elim @D 0 #0 star star (app 0 ?11 #0)))"},
		{"(pi 0 unit (pi 0 unit " + self + "))", element, "star", "?8", "(pi 0 unit (pi 0 unit (app 0 (app 0 ?10 #1) #0)))", "(lam 0 unit (lam 0 unit (elim @D 0 #0 star star (app 0 (app 0 ?10 #1) #0))))"},
		{"(pi 0 unit (pi 0 unit " + self + "))", element, "star", "?9", "(pi 0 unit (pi 0 unit (app 0 (app 0 ?11 #1) #0)))", "(lam 0 unit (lam 0 unit (elim @D 0 #0 star star (app 0 (app 0 ?11 #1) #0))))"},
		{"(pi 0 unit (pi 0 unit " + self + "))", element, "star", "?10", "(pi 0 unit (pi 0 unit (app 0 (app 0 ?11 #1) #0)))", "(lam 0 unit (lam 0 unit (elim @D 0 #0 star star (app 0 (app 0 ?11 #1) #0))))"},
		{"(pi 0 unit (pi 0 unit " + self + "))", element, "star", "?11", "(pi 0 unit (pi 0 unit (app 0 (app 0 ?11 #1) #0)))", "(lam 0 unit (lam 0 unit (elim @D 0 #0 star star (app 0 (app 0 ?11 #1) #0))))"},
		// The parameter, shifted at once by all binders that it is put under.
		{"(pi 0 unit (pi 0 unit (data @D #2)))", parameter, "?9", "star", "(pi 0 unit (pi 0 unit ?11))", "(lam 0 unit (lam 0 unit (elim @D 0 #1 star ?11 (app 0 (app 0 star #1) #0))))"},
		{"(pi 0 unit (pi 0 unit (data @D #2)))", parameter, "?10", "star", "(pi 0 unit (pi 0 unit ?12))", "(lam 0 unit (lam 0 unit (elim @D 0 #1 star ?12 (app 0 (app 0 star #1) #0))))"},
		{"(pi 0 unit (pi 0 unit (data @D #2)))", parameter, "?11", "star", "(pi 0 unit (pi 0 unit ?11))", "(lam 0 unit (lam 0 unit (elim @D 0 #1 star ?11 (app 0 (app 0 star #1) #0))))"},
		// The parameter and then a first part, filled in one after the other.
		{"(sig 0 unit (data @D #1))", parameter, "?9", "star", "(sig 0 unit ?10)", "(pair 0 unit ?10 star (elim @D 0 #1 star ?9 (snd star)))"},
		{"(sig 0 unit (data @D #1))", parameter, "?10", "star", "(sig 0 unit ?11)", "(pair 0 unit ?11 star (elim @D 0 #1 star ?11 (snd star)))"},
		{"(sig 0 unit (pi 0 unit (data @D #1)))", parameter, "star", "?10", "(sig 0 unit (pi 0 unit (fst ?11)))", "(pair 0 unit (pi 0 unit (fst ?11)) star (lam 0 unit (elim @D 0 #1 star (fst ?11) (app 0 (snd ?11) #0))))"},
		// Second types, each one shifted when it is made.
		{"(sig 0 unit (sig 0 unit " + self + "))", element, "star", "?9", "(sig 0 unit (sig 0 unit (snd (snd ?11))))", "(pair 0 unit (sig 0 unit (snd (snd ?11))) star (pair 0 unit (snd (snd ?10)) star (elim @D 0 #0 star star (snd (snd ?9)))))"},
		{"(sig 0 unit (sig 0 unit " + self + "))", element, "star", "?10", "(sig 0 unit (sig 0 unit (snd (snd ?11))))", "(pair 0 unit (sig 0 unit (snd (snd ?11))) star (pair 0 unit (snd (snd ?11)) star (elim @D 0 #0 star star (snd (snd ?10)))))"},
		// The motive, filled at once.
		{"(pi 0 unit (data @D #1))", both, "?7", "?8", "(pi 0 unit (pi 0 unit (pi 0 (app 0 ?10 #1) ?10)))", "(lam 0 unit (elim @D 0 (pi 0 unit (pi 0 #1 #3)) star ?8 (app 0 ?9 #0)))"},
		{"(pi 0 unit (data @D #1))", both, "?9", "?9", "(pi 0 unit (pi 0 unit (pi 0 (app 0 ?11 #1) ?12)))", "(lam 0 unit (elim @D 0 (pi 0 unit (pi 0 #1 #3)) star ?10 (app 0 ?10 #0)))"},
		{"(pi 0 unit (data @D #1))", both, "?10", "?10", "(pi 0 unit (pi 0 unit (pi 0 (app 0 ?11 #1) ?11)))", "(lam 0 unit (elim @D 0 (pi 0 unit (pi 0 #1 #3)) star ?11 (app 0 ?11 #0)))"},
		// Free variables of the Arg.
		{"(pi 0 ?10 (data @D ?11))", parameter, "star", "star", "(pi 0 ?9 ?11)", "(lam 0 ?9 (elim @D 0 #1 star ?11 (app 0 star #0)))"},
		{"(sig 0 unit (data @D ?10))", parameter, "star", "star", "(sig 0 unit ?9)", "(pair 0 unit ?9 star (elim @D 0 #1 star ?8 (snd star)))"},
		{"(sig 0 unit (data @D ?11))", parameter, "star", "star", "(sig 0 unit ?11)", "(pair 0 unit ?11 star (elim @D 0 #1 star ?11 (snd star)))"},
	} {
		d := family("D", "unit", "unit")
		d.Cons[0].Arg = farTerm(x.arg)
		e := parse("(elim @D 0 " + x.motive + " star star star)")
		h, code := table.Hypotheses(tableOf(d), e, 0, farTerm(x.p), farTerm(x.a))
		if code != api.OK || !equal(h, farTerm(x.h)) {
			t.Errorf("Hypotheses of %s by %s for %s, %s: %+v, %v, want %s", x.arg, x.motive, x.p, x.a, h, code, x.h)
		}
		v, code := table.Values(tableOf(d), e, 0, farTerm(x.p), farTerm(x.a))
		if code != api.OK || !equal(v, farTerm(x.v)) {
			t.Errorf("Values of %s by %s for %s, %s: %+v, %v, want %s", x.arg, x.motive, x.p, x.a, v, code, x.v)
		}
	}
}

// isSize checks that a result has some nodes, or is told to be too large.
func isSize(t *testing.T, call string, got api.Term, code api.Errno, want int) {
	t.Helper()
	n, _ := term.Size(got)
	if want <= api.MaxTerm && (code != api.OK || n != want) || want > api.MaxTerm && (code != api.ErrLimit || !isZero(got)) {
		t.Errorf("%s of %d nodes: %d nodes, %v", call, want, n, code)
	}
}

// sized returns a term with n nodes.
func sized(n int) api.Term {
	if n%2 == 0 {
		return node(api.TFst, wide(n-1))
	}
	return wide(n)
}

func TestHypothesesTellTheLimit(t *testing.T) {
	tab := with(basic(), family("D", "unit", "(pi 0 (fst #0) (data @D #1))", "(sig 0 (data @D #0) #1)"))
	for _, n := range []int{98, 99, 9985, 9992, 9993, 9994, 9995, 19980, 19981, 19983, 19984, 300001} {
		a, few := sized(n), parse("(app 0 star (app 0 star star))")
		e := parse("(elim @D 0 (app 0 #0 #0) star star star star)")
		h, code := table.Hypotheses(tab, e, 0, few, a)
		isSize(t, "H of a large element", h, code, 12+2*n)
		v, code := table.Values(tab, e, 0, few, a)
		isSize(t, "V of a large element", v, code, 20+n)
		h, code = table.Hypotheses(tab, e, 0, a, few)
		isSize(t, "H of a large parameter", h, code, 17+n)
		v, code = table.Values(tab, e, 0, a, few)
		isSize(t, "V of a large parameter", v, code, 15+2*n)
		h, code = table.Hypotheses(tab, e, 1, a, few)
		isSize(t, "H that has no parameter", h, code, 15)
		v, code = table.Values(tab, e, 1, few, a)
		isSize(t, "V of a pair", v, code, 18+3*n)
	}
}

// TestHypothesesMakeNoMoreThanTheyTell has arguments that would be far too large if all of them were filled in everywhere.
func TestHypothesesMakeNoMoreThanTheyTell(t *testing.T) {
	many := parse("#0")
	for range 9 {
		many = node(api.TApp, many, cloned(many))
	}
	large, few := wide(2000001), parse("star")
	d := family("D", "unit", "unit", "unit")
	d.Cons[0].Arg = node(api.TSigma, many, parse("SELF"))
	d.Cons[1].Arg = node(api.TPi, many, parse("SELF"))
	tab := tableOf(d)
	e := parse("(elim @D 0 unit star star star star)")
	h, code := table.Hypotheses(tab, e, 0, large, large)
	isTerm(t, "H of what is not told", h, code, "(sig 0 unit unit)", api.OK)
	for _, k := range []int{0, 1} {
		v, code := table.Values(tab, e, k, large, large)
		isTerm(t, "V of what is too large", v, code, "", api.ErrLimit)
	}
	h, code = table.Hypotheses(tab, e, 1, large, few)
	isTerm(t, "H of what is too large", h, code, "", api.ErrLimit)
}

// TestHypothesesOfLongArgs has Args with more parts than a limit lets pass.
func TestHypothesesOfLongArgs(t *testing.T) {
	long := func(op, n int) api.Table {
		d := family("D", "unit", "unit")
		d.Cons[0].Arg = parse("SELF")
		for range n {
			d.Cons[0].Arg = node(op, parse("unit"), d.Cons[0].Arg)
		}
		return tableOf(d)
	}
	e := parse("(elim @D 0 #2 star star star)")
	for _, n := range []int{1, 100, 9999, 10000, 60000} {
		h, code := table.Hypotheses(long(api.TSigma, n), e, 0, parse("star"), parse("star"))
		isSize(t, "H of pairs", h, code, 2*n+1)
		h, code = table.Hypotheses(long(api.TPi, n), e, 0, parse("star"), parse("star"))
		isSize(t, "H of functions", h, code, 2*n+1)
		v, code := table.Values(long(api.TPi, n), e, 0, parse("star"), parse("star"))
		isSize(t, "V of functions", v, code, 4*n+5)
	}
	_, code := table.Values(long(api.TSigma, 60000), e, 0, parse("star"), parse("star"))
	if code != api.ErrLimit {
		t.Errorf("V of many pairs: %v", code)
	}
}

// TestHypothesesAreNew looks at the memory of results, and at what was handed in.
func TestHypothesesAreNew(t *testing.T) {
	d := leveled(family("D", "unit", "(sig 0 (pi 0 (type u0) (data @D{u0} #1)) (sig 0 (data @D{u0} (type u0)) (type u0)))"), 1)
	tab, e := tableOf(d), parse("(elim @D{max(u1,u2)} 0 (app 0 #0 (app 0 #1 (type u3))) (type u4) star star)")
	p, a := parse("(fst (type u5))"), parse("(fst (type u6))")
	args := []api.Term{d.Cons[0].Arg, e, p, a}
	before := []api.Term{cloned(args[0]), cloned(e), cloned(p), cloned(a)}
	for range 2 {
		h, code := table.Hypotheses(tab, e, 0, p, a)
		isWhole(t, "Hypotheses", h, args...)
		v, code2 := table.Values(tab, e, 0, p, a)
		isWhole(t, "Values", v, args...)
		if code != api.OK || code2 != api.OK {
			t.Errorf("Hypotheses and Values: %v, %v", code, code2)
		}
	}
	for i, x := range args {
		if !equal(x, before[i]) {
			t.Errorf("%s is changed to %s", text(before[i]), text(x))
		}
	}
}
