package reduce_test

import (
	"tenet/api"
	"tenet/level"
	"tenet/reduce"
	"tenet/table"
	"tenet/term"
)

// kernel finds the types of terms as chapter 7 says them, for terms whose universes are those of closed levels; its conversion compares heads, without expansions, and never looks at proofs.
type kernel struct {
	tab api.Table
}

// up returns a term under some binders more.
func up(t api.Term, by int) api.Term {
	out, _ := term.Shift(t, by, 0)
	return out
}

// convertible reports whether two terms are equal by steps.
func (k kernel) convertible(a, b api.Term) bool {
	if term.Alike(a, b) {
		return true
	}
	a, _, c1 := reduce.Head(k.tab, a, 1000)
	b, _, c2 := reduce.Head(k.tab, b, 1000)
	if c1 != api.OK || c2 != api.OK || a.Op != b.Op || a.N != b.N || a.S != b.S || len(a.L) != len(b.L) {
		return false
	}
	if a.Op == api.TVar || a.Op == api.TConst || a.Op == api.TType {
		return term.Same(a, b)
	}
	for i := range a.L {
		if !term.IsProof(a, i) && !k.convertible(a.L[i], b.L[i]) {
			return false
		}
	}
	return true
}

// sort returns the level of the universe in which a type lies, and whether it is a proposition; false if it is no type.
func (k kernel) sort(ctx []api.Term, a api.Term) (api.Level, bool, bool) {
	typ, ok := k.infer(ctx, a)
	if !ok {
		return api.Level{}, false, false
	}
	h, _, _ := reduce.Head(k.tab, typ, 1000)
	switch h.Op {
	case api.TType:
		return h.U[0], false, true
	case api.TProp:
		return api.Level{}, true, true
	}
	return api.Level{}, false, false
}

// below reports whether a type is no proposition, of at most some level.
func (k kernel) below(ctx []api.Term, a api.Term, l api.Level) bool {
	at, prop, ok := k.sort(ctx, a)
	return ok && !prop && level.Leq(at, l)
}

func (k kernel) isProp(ctx []api.Term, a api.Term) bool {
	_, prop, ok := k.sort(ctx, a)
	return ok && prop
}

// has reports whether a term has a type.
func (k kernel) has(ctx []api.Term, t, typ api.Term) bool {
	got, ok := k.infer(ctx, t)
	if !ok {
		return false
	}
	if k.convertible(got, typ) {
		return true
	}
	a, _, _ := reduce.Head(k.tab, typ, 1000)
	b, _, _ := reduce.Head(k.tab, got, 1000)
	return a.Op == api.TType && b.Op == api.TType && level.Leq(b.U[0], a.U[0])
}

// marks returns the marks of a TPi or TSigma of two types, the second one under a binder of the first one.
func (k kernel) marks(ctx []api.Term, a, b api.Term) (int, api.Level, bool) {
	l1, p1, ok1 := k.sort(ctx, a)
	l2, p2, ok2 := k.sort(push(ctx, a), b)
	mark := 0
	if p1 {
		mark |= api.First
	}
	if p2 {
		mark |= api.Second
	}
	l, _ := level.Max(l1, l2)
	return mark, l, ok1 && ok2
}

func push(ctx []api.Term, l ...api.Term) []api.Term {
	return append(ctx[:len(ctx):len(ctx)], l...)
}

func equation(l api.Level, typ, a, b api.Term) api.Term {
	return api.Term{Op: api.TEq, U: []api.Level{l}, L: []api.Term{typ, a, b}}
}

func universe(l api.Level) api.Term {
	return api.Term{Op: api.TType, U: []api.Level{l}}
}

// infer returns the type of a term in a context of types, the last one being that of the variable 0.
func (k kernel) infer(ctx []api.Term, t api.Term) (api.Term, bool) {
	none := api.Term{}
	switch t.Op {
	case api.TVar:
		if t.N >= len(ctx) {
			return none, false
		}
		return up(ctx[len(ctx)-1-t.N], t.N+1), true
	case api.TConst:
		typ, e := table.TypeOf(k.tab, t.S, t.U)
		return typ, e == api.OK
	case api.TType:
		l, e := level.Suc(t.U[0])
		return universe(l), e == api.OK
	case api.TProp, api.TUnit:
		return universe(lv(0)), true
	case api.TTrue, api.TFalse:
		return node(api.TProp), true
	case api.TStar:
		return node(api.TUnit), true
	case api.TTrivial:
		return node(api.TTrue), true
	case api.TPi, api.TLam, api.TApp:
		return k.function(ctx, t)
	case api.TSigma, api.TPair, api.TFst, api.TSnd:
		return k.pair(ctx, t)
	case api.TAbsurd:
		_, prop, ok := k.sort(ctx, t.L[0])
		return t.L[0], ok && prop == (t.N == 1) && k.has(ctx, t.L[1], node(api.TFalse))
	case api.TEq, api.TRefl, api.TSubst, api.TCast:
		return k.equality(ctx, t)
	case api.TQuo, api.TClass, api.TOut:
		return k.quotient(ctx, t)
	case api.TData, api.TCon, api.TElim:
		return k.data(ctx, t)
	}
	return none, false
}

func (k kernel) function(ctx []api.Term, t api.Term) (api.Term, bool) {
	switch t.Op {
	case api.TPi:
		mark, l, ok := k.marks(ctx, t.L[0], t.L[1])
		if t.N&api.Second != 0 {
			return node(api.TProp), ok && mark == t.N
		}
		return universe(l), ok && mark == t.N
	case api.TLam:
		_, prop, ok := k.sort(ctx, t.L[0])
		if !ok || prop != (t.N == 1) {
			return api.Term{}, false
		}
		body, ok := k.infer(push(ctx, t.L[0]), t.L[1])
		if !ok {
			return api.Term{}, false
		}
		mark, _, ok := k.marks(ctx, t.L[0], body)
		return api.Term{Op: api.TPi, N: mark, L: []api.Term{t.L[0], body}}, ok
	}
	f, ok := k.infer(ctx, t.L[0])
	if !ok {
		return api.Term{}, false
	}
	f, _, _ = reduce.Head(k.tab, f, 1000)
	if f.Op != api.TPi || f.N&api.First != t.N || !k.has(ctx, t.L[1], f.L[0]) {
		return api.Term{}, false
	}
	return term.Fill(f.L[1], t.L[1:]), true
}

func (k kernel) pair(ctx []api.Term, t api.Term) (api.Term, bool) {
	switch t.Op {
	case api.TSigma:
		mark, l, ok := k.marks(ctx, t.L[0], t.L[1])
		if t.N == 3 {
			return node(api.TProp), ok && mark == 3
		}
		return universe(l), ok && mark == t.N
	case api.TPair:
		typ := api.Term{Op: api.TSigma, N: t.N, L: t.L[:2]}
		_, ok := k.pair(ctx, typ)
		return typ, ok && k.has(ctx, t.L[2], t.L[0]) && k.has(ctx, t.L[3], term.Fill(t.L[1], t.L[2:3]))
	}
	p, ok := k.infer(ctx, t.L[0])
	if !ok {
		return api.Term{}, false
	}
	p, _, _ = reduce.Head(k.tab, p, 1000)
	if p.Op != api.TSigma {
		return api.Term{}, false
	}
	if t.Op == api.TFst {
		return p.L[0], true
	}
	return term.Fill(p.L[1], []api.Term{node(api.TFst, t.L[0])}), true
}

func (k kernel) equality(ctx []api.Term, t api.Term) (api.Term, bool) {
	l, a := t.U[0], t.L[0]
	if !k.below(ctx, a, l) {
		return api.Term{}, false
	}
	next, _ := level.Suc(l)
	switch t.Op {
	case api.TEq:
		return node(api.TProp), k.has(ctx, t.L[1], a) && k.has(ctx, t.L[2], a)
	case api.TRefl:
		return equation(l, a, t.L[1], t.L[1]), k.has(ctx, t.L[1], a)
	case api.TSubst:
		p := func(i int) api.Term { return term.Fill(t.L[1], t.L[i:i+1]) }
		ok := k.isProp(push(ctx, a), t.L[1]) && k.has(ctx, t.L[2], a) && k.has(ctx, t.L[3], a)
		return p(3), ok && k.has(ctx, t.L[4], equation(l, a, t.L[2], t.L[3])) && k.has(ctx, t.L[5], p(2))
	}
	b := t.L[1]
	return b, k.below(ctx, b, l) && k.has(ctx, t.L[2], equation(next, universe(l), a, b)) && k.has(ctx, t.L[3], a)
}

// quotient does not look at the proofs about relations.
func (k kernel) quotient(ctx []api.Term, t api.Term) (api.Term, bool) {
	a := t.L[0]
	if t.Op == api.TQuo {
		return universe(t.U[0]), k.below(ctx, a, t.U[0]) && k.isProp(push(ctx, a, up(a, 1)), t.L[1])
	}
	_, _, ok := k.sort(ctx, a)
	q, _, _ := reduce.Head(k.tab, a, 1000)
	if !ok || q.Op != api.TQuo {
		return api.Term{}, false
	}
	if t.Op == api.TClass {
		return a, k.has(ctx, t.L[1], q.L[0])
	}
	_, prop, ok := k.sort(push(ctx, a), t.L[1])
	m, _ := term.Shift(t.L[1], 1, 1)
	m = term.Fill(m, []api.Term{node(api.TClass, up(a, 1), variable(0))})
	ok = ok && prop == (t.N == 1) && k.has(push(ctx, q.L[0]), t.L[2], m) && k.has(ctx, t.L[4], a)
	return term.Fill(t.L[1], t.L[4:]), ok
}

func (k kernel) data(ctx []api.Term, t api.Term) (api.Term, bool) {
	param, c1 := table.Param(k.tab, t.S, t.U)
	sort, c2 := table.Sort(k.tab, t.S, t.U)
	p := t.L[max(0, len(t.L)-2)]
	if c1 != api.OK || c2 != api.OK || !k.has(ctx, p, param) {
		return api.Term{}, false
	}
	data := func(p api.Term) api.Term { return api.Term{Op: api.TData, S: t.S, U: t.U, L: []api.Term{p}} }
	switch t.Op {
	case api.TData:
		return universe(sort), true
	case api.TCon:
		arg, c := table.Arg(k.tab, t.S, t.U, t.N, p)
		return data(p), c == api.OK && k.has(ctx, t.L[1], arg)
	}
	motive, element := t.L[0], t.L[len(t.L)-1]
	_, prop, ok := k.sort(push(ctx, param, data(variable(0))), motive)
	if !ok || prop != (t.N == 1) || !k.has(ctx, element, data(p)) {
		return api.Term{}, false
	}
	for i := range len(t.L) - 3 {
		ok = ok && k.method(ctx, t, i, param)
	}
	return term.Fill(motive, []api.Term{element, p}), ok
}

// method reports whether a method of an eliminator has its type.
func (k kernel) method(ctx []api.Term, t api.Term, i int, param api.Term) bool {
	arg, c1 := table.Arg(k.tab, t.S, t.U, i, variable(0))
	h, c2 := table.Hypotheses(k.tab, up(t, 2), i, variable(1), variable(0))
	con := api.Term{Op: api.TCon, S: t.S, U: t.U, N: i, L: []api.Term{variable(2), variable(1)}}
	motive, _ := term.Shift(t.L[0], 3, 2)
	typ := term.Fill(motive, []api.Term{con, variable(2)})
	return c1 == api.OK && c2 == api.OK && k.has(push(ctx, param, arg, h), t.L[1+i], typ)
}
