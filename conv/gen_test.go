package conv_test

import (
	"math/rand"
	"testing"

	"tenet/api"
	"tenet/conv"
	"tenet/reduce"
	"tenet/table"
	"tenet/term"
)

// gen makes terms of types that are given: so they are well typed.
type gen struct {
	*rand.Rand
	kernel
}

func newGen(seed int64) gen {
	return gen{rand.New(rand.NewSource(seed)), kernel{basic()}}
}

// ground is the context, from the outside, in which all terms are made that gen makes.
func ground() []api.Bind {
	return context(
		"(type 0)",            // 0: a type
		"(pi 0 NAT (type 0))", // 1: a family of types
		"NAT",                 // 2
		"NAT",                 // 3
		"(pi 0 NAT NAT)",      // 4
		"(pi 0 (pi 0 NAT NAT) NAT)",
		"(sig 0 NAT BOOL)",
		"#6", // 7: an element of 0
		"unit",
		"(pi 1 (eq 0 NAT #6 #5) NAT)",  // 9: uses a proof that 2 and 3 are equal
		"(sig 2 NAT (eq 0 NAT #0 #8))", // 10
		"QUO",
		"(data @Vec #9)", // 12: a vector of the length 2
		"prop",           // 13
		"!#0",            // 14: a proof of 13
		"!false",         // 15: a proof of everything
		"(app 0 #14 #13)",
		"BOOL",
		"(pi 0 (type 0) (pi 0 #0 #1))",
		"(pi 0 unit NAT)",
		"(pi 0 NAT (sig 0 BOOL NAT))",
		"MOD",
		"@Fun",
		"(pi 0 NAT (app 0 #22 #0))", // 23: elements of all types of 1
		"(pi 0 prop NAT)",
	)
}

// groundVar is the variable i of ground, counted from the outside, in a context that goes on from it.
func groundVar(ctx []api.Bind, i int) api.Term {
	return variable(len(ctx) - 1 - i)
}

// absurd returns an element of any type, which is a proof if mark is 1.
func absurd(ctx []api.Bind, typ api.Term, mark int) api.Term {
	return marked(api.TAbsurd, mark, typ, groundVar(ctx, 15))
}

func data(name string, p api.Term) api.Term {
	return api.Term{Op: api.TData, S: name, L: []api.Term{p}}
}

// typ returns a type of the level 0 that is no proposition.
func (g gen) typ(ctx []api.Bind, n int) api.Term {
	if n <= 0 {
		return []api.Term{parse("NAT"), parse("BOOL"), parse("unit"), parse("NAT"), groundVar(ctx, 0), parse("@Fun"), parse("(data @Tree star)")}[g.Intn(7)]
	}
	switch g.Intn(13) {
	case 0, 1:
		return node(api.TPi, g.both(ctx, g.typ(ctx, n-1), n)...)
	case 2, 3:
		return node(api.TSigma, g.both(ctx, g.typ(ctx, n-1), n)...)
	case 4:
		return marked(api.TPi, 1, g.both(ctx, g.prop(ctx, n-1), n)...)
	case 5:
		return marked(api.TSigma, 1, g.both(ctx, g.prop(ctx, n-1), n)...)
	case 6:
		a := g.typ(ctx, n-1)
		return marked(api.TSigma, 2, a, g.prop(push(ctx, a), n-1))
	case 7:
		return data("Vec", g.element(ctx, parse("NAT"), n-1))
	case 8:
		a := g.typ(ctx, n-1)
		proof := parse("trivial")
		return api.Term{Op: api.TQuo, U: []api.Level{lv(0)}, L: []api.Term{a, g.prop(push(ctx, a, up(a, 1)), n-1), proof, proof, proof}}
	case 9:
		return node(api.TApp, groundVar(ctx, 1), g.element(ctx, parse("NAT"), n-1))
	case 10:
		return g.choice(ctx, parse("(type 0)"), g.typ(ctx, n-1), g.typ(ctx, n-1), n)
	case 11:
		a := g.typ(ctx, n-1)
		return node(api.TApp, node(api.TLam, parse("(type 0)"), variable(0)), a)
	}
	return g.typ(ctx, 0)
}

// both returns a type and one in the context with it.
func (g gen) both(ctx []api.Bind, a api.Term, n int) []api.Term {
	return []api.Term{a, g.typ(push(ctx, a), n-1)}
}

// prop returns a proposition.
func (g gen) prop(ctx []api.Bind, n int) api.Term {
	if n <= 0 {
		return []api.Term{parse("true"), parse("false"), groundVar(ctx, 13)}[g.Intn(3)]
	}
	switch g.Intn(6) {
	case 0, 1:
		a := g.typ(ctx, n-1)
		return equation(lv(g.Intn(2)), a, g.element(ctx, a, n-1), g.element(ctx, a, n-1))
	case 5:
		a := parse([]string{"prop", "(type 0)"}[g.Intn(2)])
		return equation(lv(1), a, g.element(ctx, a, n-1), g.element(ctx, a, n-1))
	case 2:
		a := g.typ(ctx, n-1)
		return marked(api.TPi, 2, a, g.prop(push(ctx, a), n-1))
	case 3:
		a := g.prop(ctx, n-1)
		return marked(api.TPi, 3, a, g.prop(push(ctx, a), n-1))
	}
	a := g.prop(ctx, n-1)
	return marked(api.TSigma, 3, a, g.prop(push(ctx, a), n-1))
}

// proof returns one of several proofs of a proposition.
func (g gen) proof(ctx []api.Bind, p api.Term) api.Term {
	out := absurd(ctx, p, 1)
	switch g.Intn(3) {
	case 0:
		return marked(api.TApp, 1, marked(api.TLam, 1, parse("true"), up(out, 1)), parse("trivial"))
	case 1:
		return node(api.TSnd, marked(api.TPair, 3, parse("true"), up(p, 1), parse("trivial"), out))
	}
	return out
}

// choice returns an element by cases.
func (g gen) choice(ctx []api.Bind, typ, yes, no api.Term, n int) api.Term {
	return api.Term{Op: api.TElim, S: "Bool", L: []api.Term{up(typ, 2), up(yes, 3), up(no, 3), parse("star"), g.element(ctx, parse("BOOL"), n-1)}}
}

// element returns an element of a type.
func (g gen) element(ctx []api.Bind, typ api.Term, n int) api.Term {
	if g.Intn(3) == 0 {
		if s, ok := g.variable(ctx, typ, n); ok {
			return s
		}
	}
	if n > 0 && g.Intn(3) == 0 {
		return g.active(ctx, typ, n)
	}
	if s, ok := g.intro(ctx, typ, n); ok {
		return s
	}
	if s, ok := g.variable(ctx, typ, n); ok {
		return s
	}
	return absurd(ctx, typ, 0)
}

// variable returns an element that a variable yields.
func (g gen) variable(ctx []api.Bind, typ api.Term, n int) (api.Term, bool) {
	for range 12 {
		i := g.Intn(len(ctx))
		if g.Intn(3) == 0 {
			i = 0
		}
		b, _ := conv.Lookup(ctx, i)
		if s, ok := g.use(ctx, variable(i), b.Type, typ, n); ok {
			return s, true
		}
	}
	return api.Term{}, false
}

// use returns an element of a type that a term of another type yields.
func (g gen) use(ctx []api.Bind, s, has, typ api.Term, n int) (api.Term, bool) {
	if term.Alike(has, typ) {
		return s, true
	}
	has = g.head(has)
	if n <= 0 || has.N&api.Second != 0 && has.Op == api.TPi {
		return api.Term{}, false
	}
	switch {
	case has.Op == api.TPi && has.L[0].Op == api.TType:
		if _, prop, ok := g.sort(ctx, typ); !ok || prop || !g.below(ctx, typ, lv(0)) {
			return api.Term{}, false
		}
		return g.use(ctx, node(api.TApp, s, typ), term.Fill(has.L[1], []api.Term{typ}), typ, n-1)
	case has.Op == api.TPi:
		a := g.argument(ctx, has, n)
		return g.use(ctx, marked(api.TApp, has.N, s, a), term.Fill(has.L[1], []api.Term{a}), typ, n-1)
	case has.Op == api.TSigma && has.N&api.First == 0 && g.Intn(2) == 0:
		return g.use(ctx, node(api.TFst, s), has.L[0], typ, n-1)
	case has.Op == api.TSigma && has.N&api.Second == 0:
		return g.use(ctx, node(api.TSnd, s), term.Fill(has.L[1], []api.Term{node(api.TFst, s)}), typ, n-1)
	}
	return api.Term{}, false
}

// argument returns an element of the first part of a type, a proof if it is a proposition.
func (g gen) argument(ctx []api.Bind, a api.Term, n int) api.Term {
	if a.N&api.First != 0 {
		return g.proof(ctx, a.L[0])
	}
	return g.element(ctx, a.L[0], n-1)
}

// intro returns an element as its type makes it.
func (g gen) intro(ctx []api.Bind, typ api.Term, n int) (api.Term, bool) {
	a := g.head(typ)
	switch a.Op {
	case api.TUnit:
		return parse("star"), true
	case api.TType:
		return g.typ(ctx, n-1), true
	case api.TProp:
		return g.prop(ctx, n-1), true
	case api.TPi:
		return marked(api.TLam, a.N&api.First, a.L[0], g.element(push(ctx, a.L[0]), a.L[1], n-1)), true
	case api.TSigma:
		x := g.argument(ctx, a, n)
		second := term.Fill(a.L[1], []api.Term{x})
		y := g.proof(ctx, second)
		if a.N&api.Second == 0 {
			y = g.element(ctx, second, n-1)
		}
		return marked(api.TPair, a.N, a.L[0], a.L[1], x, y), true
	case api.TQuo:
		return node(api.TClass, typ, g.element(ctx, a.L[0], n-1)), true
	case api.TData:
		return g.con(ctx, a, n)
	}
	return api.Term{}, false
}

// con returns a constructor of a family.
func (g gen) con(ctx []api.Bind, a api.Term, n int) (api.Term, bool) {
	k := g.Intn(2)
	if n <= 0 {
		k = 0
	}
	arg, code := table.Arg(g.tab, a.S, a.U, k, a.L[0])
	if code != api.OK {
		return api.Term{}, false
	}
	return api.Term{Op: api.TCon, S: a.S, U: a.U, N: k, L: []api.Term{a.L[0], g.element(ctx, arg, n-1)}}, true
}

// active returns an element that has a step mostly.
func (g gen) active(ctx []api.Bind, typ api.Term, n int) api.Term {
	small := g.below(ctx, typ, lv(0))
	switch g.Intn(10) {
	case 0, 1:
		b := g.typ(ctx, n-1)
		return node(api.TApp, node(api.TLam, b, g.element(push(ctx, b), up(typ, 1), n-1)), g.element(ctx, b, n-1))
	case 2:
		b := g.typ(ctx, n-1)
		return node(api.TFst, node(api.TPair, typ, up(b, 1), g.element(ctx, typ, n-1), g.element(ctx, b, n-1)))
	case 3:
		return g.choice(ctx, typ, g.element(ctx, typ, n-1), g.element(ctx, typ, n-1), n)
	case 4, 5:
		if small {
			from := g.typ(ctx, n-1)
			if g.Intn(3) == 0 {
				from = typ
			}
			same := equation(lv(1), parse("(type 0)"), from, typ)
			return api.Term{Op: api.TCast, U: []api.Level{lv(0)}, L: []api.Term{from, typ, g.proof(ctx, same), g.element(ctx, from, n-1)}}
		}
	case 6:
		if small {
			id := api.Term{Op: api.TConst, S: "id", U: []api.Level{lv(0)}}
			return node(api.TApp, node(api.TApp, id, typ), g.element(ctx, typ, n-1))
		}
	case 7:
		return g.induction(ctx, typ, n)
	case 8:
		if small {
			return g.out(ctx, typ, n)
		}
	}
	if term.Same(typ, parse("NAT")) {
		f := parse([]string{"@plus", "@times"}[g.Intn(2)])
		return node(api.TApp, node(api.TApp, f, g.element(ctx, typ, n-1)), g.element(ctx, typ, n-1))
	}
	if term.Same(typ, parse("BOOL")) {
		return node(api.TApp, parse("@even"), g.element(ctx, parse("NAT"), n-1))
	}
	return absurd(ctx, typ, 0)
}

// induction returns an element by an eliminator of numbers, trees or vectors.
func (g gen) induction(ctx []api.Bind, typ api.Term, n int) api.Term {
	name, p := []string{"Nat", "Tree", "Vec"}[g.Intn(3)], parse("star")
	if name == "Vec" {
		p = g.element(ctx, parse("NAT"), n-1)
	}
	out := api.Term{Op: api.TElim, S: name, L: []api.Term{up(typ, 2)}}
	param, _ := table.Param(g.tab, name, nil)
	whole := out
	whole.L = []api.Term{up(typ, 2), p, p, p, p}
	for k := range 2 {
		arg, _ := table.Arg(g.tab, name, nil, k, variable(0))
		h, _ := table.Hypotheses(g.tab, up(whole, 2), k, variable(1), variable(0))
		out.L = append(out.L, g.element(push(ctx, param, arg, h), up(typ, 3), n-2))
	}
	out.L = append(out.L, p, g.element(ctx, data(name, p), n-1))
	return out
}

// out returns an element that is taken out of a quotient. The proof of respect is none: nothing looks at it.
func (g gen) out(ctx []api.Bind, typ api.Term, n int) api.Term {
	q := parse("QUO")
	if g.Intn(3) == 0 {
		q = node(api.TApp, parse("(lam 0 unit QUO)"), parse("star"))
	}
	value := g.element(push(ctx, parse("NAT")), up(typ, 1), n-1)
	return api.Term{Op: api.TOut, U: []api.Level{lv(0)}, L: []api.Term{q, up(typ, 1), value, parse("trivial"), g.element(ctx, q, n-1)}}
}

// varied returns a term that is equal to one that has a type in a context: a part is another one by a step, an expansion or another proof.
func (g gen) varied(ctx []api.Bind, t api.Term) api.Term {
	if len(t.L) > 0 && g.Intn(4) > 0 {
		i := g.Intn(len(t.L))
		in := g.inside(ctx, t, i)
		part := g.reproved
		if !term.IsProof(t, i) {
			part = g.varied
		}
		out, _ := term.Put(t, []int{i}, part(in, t.L[i]))
		return out
	}
	typ, ok := g.infer(ctx, t)
	if !ok || g.isProp(ctx, typ) {
		return t
	}
	if s, _, is := reduce.Step(g.tab, t); is && g.Intn(2) == 0 {
		return s
	}
	a := g.head(typ)
	switch {
	case a.Op == api.TPi:
		return marked(api.TLam, a.N, a.L[0], marked(api.TApp, a.N, up(t, 1), variable(0)))
	case a.Op == api.TSigma:
		return marked(api.TPair, a.N, a.L[0], a.L[1], node(api.TFst, t), node(api.TSnd, t))
	case a.Op == api.TUnit:
		return parse("star")
	case g.Intn(2) == 0:
		return node(api.TApp, node(api.TLam, typ, variable(0)), t)
	}
	return node(api.TFst, marked(api.TPair, 2, typ, parse("true"), t, parse("trivial")))
}

// reproved returns another proof of what a term proves.
func (g gen) reproved(ctx []api.Bind, t api.Term) api.Term {
	p, ok := g.infer(ctx, t)
	if !ok {
		return parse("(fst trivial)")
	}
	return g.proof(ctx, p)
}

// TestGenerated checks that the terms of the tests have their types, and keep them when they are varied.
func TestGenerated(t *testing.T) {
	g, ctx := newGen(1), ground()
	for i := range ctx {
		if _, _, ok := g.sort(ctx[:i], ctx[i].Type); !ok {
			t.Fatalf("the variable %d has no type", i)
		}
	}
	for range 400 {
		typ := g.typ(ctx, 3)
		if !g.below(ctx, typ, lv(0)) {
			t.Fatalf("no type: %s", text(typ))
		}
		a := g.element(ctx, typ, 4)
		if !g.has(ctx, a, typ) {
			t.Fatalf("%s is no element of %s", text(a), text(typ))
		}
		for range 3 {
			a = g.varied(ctx, a)
		}
		if !g.has(ctx, a, typ) {
			t.Fatalf("varied: %s is no element of %s", text(a), text(typ))
		}
	}
}
