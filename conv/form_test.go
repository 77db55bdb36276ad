package conv_test

import (
	"slices"
	"testing"

	"tenet/api"
	"tenet/conv"
	"tenet/term"
)

// P6.1, P6.2: what is no comparison

// refused checks that all three comparisons tell ErrForm for some terms in a context, or none of them does.
func refused(t *testing.T, name string, ctx []api.Bind, bad api.Term, want bool) {
	t.Helper()
	good := parse("unit")
	check := func(what string, e api.Errno, zero bool) {
		t.Helper()
		if want && (e != api.ErrForm || !zero) || !want && e == api.ErrForm {
			t.Errorf("%s, %s: %v", name, what, e)
		}
	}
	for _, l := range [][3]api.Term{{bad, good, good}, {good, bad, good}, {good, good, bad}, {bad, bad, bad}} {
		is, e := conv.Elements(basic(), ctx, l[0], l[1], l[2], 100)
		check("Elements", e, !is)
	}
	for _, l := range [][2]api.Term{{bad, good}, {good, bad}, {bad, bad}} {
		is, e := conv.Types(basic(), ctx, l[0], l[1], 100)
		check("Types", e, !is)
		typ, is, e := conv.Neutral(basic(), ctx, l[0], l[1], 100)
		check("Neutral", e, !is && term.Same(typ, api.Term{}))
	}
}

func TestFormOfTerms(t *testing.T) {
	ctx := context("NAT", "NAT")
	for _, s := range []string{"#0", "#1", "(lam 0 unit #2)", "?7", "proof", "@lost", "(data @Lost{u3} star)", "(pi 3 unit #2)"} {
		refused(t, s, ctx, parse(s), false)
	}
	for _, s := range []string{"#2", "(lam 0 unit #3)", "(fst #2000)", "(app 1 #0 #2)"} {
		refused(t, s, ctx, parse(s), true)
	}
	refused(t, "a negative variable", ctx, variable(-1), true)
	refused(t, "a variable above MaxNodes", ctx, variable(api.MaxNodes+1), true)
	refused(t, "the zero term", ctx, api.Term{}, true)
	refused(t, "a part too few", ctx, node(api.TPi, parse("unit")), true)
	refused(t, "a part too many", ctx, node(api.TUnit, parse("unit")), true)
	refused(t, "a mark that is none", ctx, marked(api.TPi, 4, parse("unit"), parse("unit")), true)
	refused(t, "a name that is none", ctx, api.Term{Op: api.TConst, S: "1"}, true)
	refused(t, "no level", ctx, node(api.TType), true)
	refused(t, "a level that is not canonical", ctx, universe(lv(2, 0, 5)), true)
	refused(t, "an Op that is none", ctx, node(31), true)
	refused(t, "deep within", ctx, nest(api.TPi, 300, parse("unit"), node(api.TFst)), true)
}

func TestFormOfLargeTerms(t *testing.T) {
	for _, x := range []struct {
		nodes int
		want  bool
	}{{api.MaxNodes + 1, false}, {api.MaxTerm - 1, false}, {api.MaxTerm, false}, {api.MaxTerm + 1, true}, {3 * api.MaxTerm, true}} {
		s := nestOp(api.TFst, x.nodes-1, variable(0))
		refused(t, "nodes", context("NAT"), s, x.want)
	}
}

func TestFormOfContexts(t *testing.T) {
	nodes := func(n int) api.Bind { return api.Bind{Type: nestOp(api.TFst, n-1, parse("unit"))} }
	for _, x := range []struct {
		name string
		ctx  []api.Bind
		want bool
	}{
		{"none", nil, false},
		{"ground", ground(), false},
		{"all that there may be", slices.Repeat(context("NAT"), api.MaxCtx), false},
		{"one too many", slices.Repeat(context("NAT"), api.MaxCtx+1), true},
		{"a variable that is bound later", context("NAT", "#1"), true},
		{"a variable that is bound before", context("NAT", "#0", "(pi 0 #1 #2)"), false},
		{"the first one open", context("#0"), true},
		{"as many nodes as there may be", []api.Bind{nodes(api.MaxNodes)}, false},
		{"a node too many", []api.Bind{nodes(api.MaxNodes + 1)}, true},
		{"no form", []api.Bind{{Type: node(api.TFst)}}, true},
		{"no type", []api.Bind{{}}, true},
		{"a hole", context("?3"), false},
		{"deep", []api.Bind{{Type: nestOp(api.TFst, 1500, parse("unit"))}}, false},
	} {
		refused(t, x.name, x.ctx, parse("star"), x.want)
		if is := conv.Scope(x.ctx); is == x.want {
			t.Errorf("%s: Scope is %v", x.name, is)
		}
	}
}

// A context may become longer than contexts of arguments are, when binders are gone under.
func TestLongContexts(t *testing.T) {
	ctx := slices.Repeat(context("NAT"), api.MaxCtx)
	typ := nest(api.TPi, 100, parse("NAT"), parse("NAT"))
	a := nest(api.TLam, 100, parse("NAT"), variable(120))
	b := nest(api.TLam, 100, parse("NAT"), parse("(app 0 (lam 0 NAT #0) #120)"))
	c := nest(api.TLam, 100, parse("NAT"), variable(121))
	if is, e := conv.Elements(basic(), ctx, typ, a, b, 1000); !is || e != api.OK {
		t.Errorf("equal: %v, %v", is, e)
	}
	if is, e := conv.Elements(basic(), ctx, typ, a, c, 1000); is || e != api.OK {
		t.Errorf("different: %v, %v", is, e)
	}
	f := nest(api.TPi, 100, parse("NAT"), data("Vec", variable(120)))
	g := nest(api.TPi, 100, parse("NAT"), data("Vec", parse("(app 0 (lam 0 NAT #0) #120)")))
	if is, e := conv.Types(basic(), ctx, f, g, 1000); !is || e != api.OK {
		t.Errorf("types: %v, %v", is, e)
	}
}

// Arguments are not changed, whatever is done with them.
func TestArgumentsStay(t *testing.T) {
	g, ctx := newGen(4), ground()
	for range 100 {
		typ, a, b, _ := g.two(ctx)
		all := append([]api.Term{typ, a, b}, g.tab.Decls[2].Body)
		for _, c := range ctx {
			all = append(all, c.Type)
		}
		var before []string
		for _, s := range all {
			before = append(before, text(s))
		}
		conv.Elements(g.tab, ctx, typ, a, b, 1000)
		conv.Types(g.tab, ctx, typ, typ, 1000)
		conv.Neutral(g.tab, ctx, a, b, 1000)
		conv.Differ(g.tab, a, b)
		for i, s := range all {
			if text(s) != before[i] {
				t.Fatalf("%s has become %s", before[i], text(s))
			}
		}
	}
}
