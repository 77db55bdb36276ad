package conv_test

import (
	"tenet/api"
	"tenet/conv"
	"tenet/level"
	"tenet/reduce"
	"tenet/table"
	"tenet/term"
)

// kernel finds the types of terms as chapter 7 says them, but for the proofs about relations, at which it does not look.
type kernel struct {
	tab api.Table
}

// push returns a context with some types more.
func push(ctx []api.Bind, l ...api.Term) []api.Bind {
	out := ctx[:len(ctx):len(ctx)]
	for _, t := range l {
		out = append(out, api.Bind{Type: t})
	}
	return out
}

func (k kernel) head(a api.Term) api.Term {
	h, _, _ := reduce.Head(k.tab, a, 3000)
	return h
}

// sort returns the level of the universe in which a type lies, and whether it is a proposition; false if it is no type.
func (k kernel) sort(ctx []api.Bind, a api.Term) (api.Level, bool, bool) {
	typ, ok := k.infer(ctx, a)
	if !ok {
		return api.Level{}, false, false
	}
	h := k.head(typ)
	switch h.Op {
	case api.TType:
		return h.U[0], false, true
	case api.TProp:
		return api.Level{}, true, true
	}
	return api.Level{}, false, false
}

// below reports whether a type is no proposition, of at most some level.
func (k kernel) below(ctx []api.Bind, a api.Term, l api.Level) bool {
	at, prop, ok := k.sort(ctx, a)
	return ok && !prop && level.Leq(at, l)
}

func (k kernel) isProp(ctx []api.Bind, a api.Term) bool {
	_, prop, ok := k.sort(ctx, a)
	return ok && prop
}

// has reports whether a term has a type.
func (k kernel) has(ctx []api.Bind, t, typ api.Term) bool {
	got, ok := k.infer(ctx, t)
	if !ok {
		return false
	}
	if is, e := conv.Types(k.tab, ctx, got, typ, 3000); e == api.OK && is {
		return true
	}
	a, b := k.head(typ), k.head(got)
	return a.Op == api.TType && b.Op == api.TType && level.Leq(b.U[0], a.U[0])
}

// marks returns the marks of a TPi or TSigma of two types, the second one under a binder of the first one.
func (k kernel) marks(ctx []api.Bind, a, b api.Term) (int, api.Level, bool) {
	l1, p1, ok1 := k.sort(ctx, a)
	l2, p2, ok2 := k.sort(push(ctx, a), b)
	mark := 0
	if p1 {
		mark |= api.First
	}
	if p2 {
		mark |= api.Second
	}
	l, _ := level.Max(l1, l2)
	return mark, l, ok1 && ok2
}

func equation(l api.Level, typ, a, b api.Term) api.Term {
	return api.Term{Op: api.TEq, U: []api.Level{l}, L: []api.Term{typ, a, b}}
}

func universe(l api.Level) api.Term {
	return api.Term{Op: api.TType, U: []api.Level{l}}
}

// infer returns the type of a term in a context.
func (k kernel) infer(ctx []api.Bind, t api.Term) (api.Term, bool) {
	switch t.Op {
	case api.TVar:
		b, e := conv.Lookup(ctx, t.N)
		return b.Type, e == api.OK
	case api.TConst:
		typ, e := table.TypeOf(k.tab, t.S, t.U)
		return typ, e == api.OK
	case api.TType:
		l, e := level.Suc(t.U[0])
		return universe(l), e == api.OK
	case api.TProp, api.TUnit:
		return universe(lv(0)), true
	case api.TTrue, api.TFalse:
		return node(api.TProp), true
	case api.TStar:
		return node(api.TUnit), true
	case api.TTrivial:
		return node(api.TTrue), true
	case api.TPi, api.TLam, api.TApp:
		return k.function(ctx, t)
	case api.TSigma, api.TPair, api.TFst, api.TSnd:
		return k.pair(ctx, t)
	case api.TAbsurd:
		_, prop, ok := k.sort(ctx, t.L[0])
		return t.L[0], ok && prop == (t.N == 1) && k.has(ctx, t.L[1], node(api.TFalse))
	case api.TEq, api.TRefl, api.TSubst, api.TCast:
		return k.equality(ctx, t)
	case api.TQuo, api.TClass, api.TOut:
		return k.quotient(ctx, t)
	case api.TData, api.TCon, api.TElim:
		return k.data(ctx, t)
	}
	return api.Term{}, false
}

func (k kernel) function(ctx []api.Bind, t api.Term) (api.Term, bool) {
	switch t.Op {
	case api.TPi:
		mark, l, ok := k.marks(ctx, t.L[0], t.L[1])
		if t.N&api.Second != 0 {
			return node(api.TProp), ok && mark == t.N
		}
		return universe(l), ok && mark == t.N
	case api.TLam:
		_, prop, ok := k.sort(ctx, t.L[0])
		if !ok || prop != (t.N == 1) {
			return api.Term{}, false
		}
		body, ok := k.infer(push(ctx, t.L[0]), t.L[1])
		if !ok {
			return api.Term{}, false
		}
		mark, _, ok := k.marks(ctx, t.L[0], body)
		return marked(api.TPi, mark, t.L[0], body), ok
	}
	f, ok := k.infer(ctx, t.L[0])
	if !ok {
		return api.Term{}, false
	}
	f = k.head(f)
	if f.Op != api.TPi || f.N&api.First != t.N || !k.has(ctx, t.L[1], f.L[0]) {
		return api.Term{}, false
	}
	return term.Fill(f.L[1], t.L[1:]), true
}

func (k kernel) pair(ctx []api.Bind, t api.Term) (api.Term, bool) {
	switch t.Op {
	case api.TSigma:
		mark, l, ok := k.marks(ctx, t.L[0], t.L[1])
		if t.N == 3 {
			return node(api.TProp), ok && mark == 3
		}
		return universe(l), ok && mark == t.N
	case api.TPair:
		typ := marked(api.TSigma, t.N, t.L[:2]...)
		_, ok := k.pair(ctx, typ)
		return typ, ok && k.has(ctx, t.L[2], t.L[0]) && k.has(ctx, t.L[3], term.Fill(t.L[1], t.L[2:3]))
	}
	p, ok := k.infer(ctx, t.L[0])
	if !ok {
		return api.Term{}, false
	}
	p = k.head(p)
	if p.Op != api.TSigma {
		return api.Term{}, false
	}
	if t.Op == api.TFst {
		return p.L[0], true
	}
	return term.Fill(p.L[1], []api.Term{node(api.TFst, t.L[0])}), true
}

func (k kernel) equality(ctx []api.Bind, t api.Term) (api.Term, bool) {
	l, a := t.U[0], t.L[0]
	if !k.below(ctx, a, l) {
		return api.Term{}, false
	}
	next, _ := level.Suc(l)
	switch t.Op {
	case api.TEq:
		return node(api.TProp), k.has(ctx, t.L[1], a) && k.has(ctx, t.L[2], a)
	case api.TRefl:
		return equation(l, a, t.L[1], t.L[1]), k.has(ctx, t.L[1], a)
	case api.TSubst:
		p := func(i int) api.Term { return term.Fill(t.L[1], t.L[i:i+1]) }
		ok := k.isProp(push(ctx, a), t.L[1]) && k.has(ctx, t.L[2], a) && k.has(ctx, t.L[3], a)
		return p(3), ok && k.has(ctx, t.L[4], equation(l, a, t.L[2], t.L[3])) && k.has(ctx, t.L[5], p(2))
	}
	b := t.L[1]
	return b, k.below(ctx, b, l) && k.has(ctx, t.L[2], equation(next, universe(l), a, b)) && k.has(ctx, t.L[3], a)
}

func (k kernel) quotient(ctx []api.Bind, t api.Term) (api.Term, bool) {
	a := t.L[0]
	if t.Op == api.TQuo {
		return universe(t.U[0]), k.below(ctx, a, t.U[0]) && k.isProp(push(ctx, a, up(a, 1)), t.L[1])
	}
	_, _, ok := k.sort(ctx, a)
	q := k.head(a)
	if !ok || q.Op != api.TQuo {
		return api.Term{}, false
	}
	if t.Op == api.TClass {
		return a, k.has(ctx, t.L[1], q.L[0])
	}
	_, prop, ok := k.sort(push(ctx, a), t.L[1])
	m, _ := term.Shift(t.L[1], 1, 1)
	m = term.Fill(m, []api.Term{node(api.TClass, up(a, 1), variable(0))})
	ok = ok && prop == (t.N == 1) && k.has(push(ctx, q.L[0]), t.L[2], m) && k.has(ctx, t.L[4], a)
	return term.Fill(t.L[1], t.L[4:]), ok
}

func (k kernel) data(ctx []api.Bind, t api.Term) (api.Term, bool) {
	param, c1 := table.Param(k.tab, t.S, t.U)
	sort, c2 := table.Sort(k.tab, t.S, t.U)
	p := t.L[max(0, len(t.L)-2)]
	if c1 != api.OK || c2 != api.OK || !k.has(ctx, p, param) {
		return api.Term{}, false
	}
	data := func(p api.Term) api.Term { return api.Term{Op: api.TData, S: t.S, U: t.U, L: []api.Term{p}} }
	switch t.Op {
	case api.TData:
		return universe(sort), true
	case api.TCon:
		arg, c := table.Arg(k.tab, t.S, t.U, t.N, p)
		return data(p), c == api.OK && k.has(ctx, t.L[1], arg)
	}
	motive, element := t.L[0], t.L[len(t.L)-1]
	_, prop, ok := k.sort(push(ctx, param, data(variable(0))), motive)
	if !ok || prop != (t.N == 1) || !k.has(ctx, element, data(p)) {
		return api.Term{}, false
	}
	for i := range len(t.L) - 3 {
		inside, typ, has := k.method(ctx, t, i)
		ok = ok && has && k.has(inside, t.L[1+i], typ)
	}
	return term.Fill(motive, []api.Term{element, p}), ok
}

// method returns the context of a method of an eliminator, and its type.
func (k kernel) method(ctx []api.Bind, t api.Term, i int) ([]api.Bind, api.Term, bool) {
	param, c1 := table.Param(k.tab, t.S, t.U)
	arg, c2 := table.Arg(k.tab, t.S, t.U, i, variable(0))
	h, c3 := table.Hypotheses(k.tab, up(t, 2), i, variable(1), variable(0))
	con := api.Term{Op: api.TCon, S: t.S, U: t.U, N: i, L: []api.Term{variable(2), variable(1)}}
	motive, _ := term.Shift(t.L[0], 3, 2)
	typ := term.Fill(motive, []api.Term{con, variable(2)})
	return push(ctx, param, arg, h), typ, c1 == api.OK && c2 == api.OK && c3 == api.OK
}

// inside returns the context of a part of a term that has a type.
func (k kernel) inside(ctx []api.Bind, t api.Term, i int) []api.Bind {
	switch {
	case term.Binds(t, i) == 0:
		return ctx
	case t.Op == api.TQuo:
		return push(ctx, t.L[0], up(t.L[0], 1))
	case t.Op == api.TOut && i == 2:
		return push(ctx, k.head(t.L[0]).L[0])
	case t.Op == api.TElim && i == 0:
		param, _ := table.Param(k.tab, t.S, t.U)
		return push(ctx, param, api.Term{Op: api.TData, S: t.S, U: t.U, L: []api.Term{variable(0)}})
	case t.Op == api.TElim:
		in, _, _ := k.method(ctx, t, i-1)
		return in
	}
	return push(ctx, t.L[0])
}
