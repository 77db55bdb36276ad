package table

import (
	"tenet/api"
	"tenet/term"
)

// Hypotheses is described in P4.4.
func Hypotheses(t api.Table, e api.Term, k int, p, a api.Term) (api.Term, api.Errno) {
	in, of, code := induct(t, e, k, p)
	if code != api.OK {
		return api.Term{}, code
	}
	return in.result(in.hypotheses(of, in.given(a), nil))
}

// Values is described in P4.4.
func Values(t api.Table, e api.Term, k int, p, a api.Term) (api.Term, api.Errno) {
	in, of, code := induct(t, e, k, p)
	if code != api.OK {
		return api.Term{}, code
	}
	return in.result(in.values(of, in.given(a), nil))
}

// induction makes the hypotheses of an eliminator, and their values.
type induction struct {
	maker
	elim api.Term
}

// argument is an argument type: as it is declared, but for the levels, and what is filled in.
type argument struct {
	shape shape
	typ   api.Term
	depth int // how many binders of the Arg there are around it
	lifts int // how many of these are those of function types: they stay
	fills *filling
}

// filling is a value for the variable that is bound last at a depth, which is filled in behind those before it.
type filling struct {
	value  lazy
	depth  int
	before *filling
}

// induct returns the whole argument type of the constructor k for a parameter.
func induct(t api.Table, e api.Term, k int, p api.Term) (*induction, argument, api.Errno) {
	if e.Op != api.TElim || !term.Form(e) {
		return nil, argument{}, api.ErrForm
	}
	d, typ, code := openArg(t, e.S, e.U, k)
	if code != api.OK {
		return nil, argument{}, code
	}
	if methods(&e) != len(d.Cons) {
		return nil, argument{}, api.ErrArity
	}
	in := &induction{elim: e}
	return in, argument{shape: shapeOf(d, d.Cons[k].Arg).counted(), typ: typ}.filled(in.given(p)), api.OK
}

// hypotheses makes H of an argument type and an element of it, with steps that are taken with it then.
func (in *induction) hypotheses(of argument, a lazy, then *steps) api.Term {
	if in.isFull() {
		return api.Term{}
	}
	switch of.shape.kind {
	case recursive:
		motive := filled(then, a, in.first(of))
		return in.own(0, of, motive.below(-term.Binds(in.elim, 0)))
	case function:
		domain := in.first(of)(then)
		codomain := in.hypotheses(of.codomain(), in.applied(of, a), then.below(1))
		return in.node(api.Term{Op: api.TPi, N: of.mark() | in.pick(0, api.Second)}, domain, codomain)
	case pair:
		first, second := in.halves(of, a, then)
		return in.node(api.Term{Op: api.TSigma, N: in.pick(0, api.First|api.Second)}, first, second)
	}
	return in.node(api.Term{Op: in.pick(api.TUnit, api.TTrue)})
}

// values makes V of an argument type and an element of it, with steps that are taken with it then.
func (in *induction) values(of argument, a lazy, then *steps) api.Term {
	if in.isFull() {
		return api.Term{}
	}
	switch of.shape.kind {
	case recursive:
		return in.eliminated(of, a, then)
	case function:
		domain := in.first(of)(then)
		body := in.values(of.codomain(), in.applied(of, a), then.below(1))
		return in.node(api.Term{Op: api.TLam, N: of.mark()}, domain, body)
	case pair:
		first, second := in.halves(of, a, then)
		x := in.projected(api.TFst, a)
		u := in.values(of.part(0), x, then)
		v := in.values(of.part(1).filled(x), in.projected(api.TSnd, a), then)
		return in.node(api.Term{Op: api.TPair, N: in.pick(0, api.First|api.Second)}, first, second, u, v)
	}
	return in.node(api.Term{Op: in.pick(api.TStar, api.TTrivial)})
}

// halves makes the two types of H for a pair type. The second one is shifted, since it has a variable more around it, which does not occur in it.
func (in *induction) halves(of argument, a lazy, then *steps) (api.Term, api.Term) {
	x := in.projected(api.TFst, a)
	first := in.hypotheses(of.part(0), x, then)
	second := in.hypotheses(of.part(1).filled(x), in.projected(api.TSnd, a), shifted(1, then.below(1)))
	return first, second
}

// eliminated makes the eliminator with another parameter and element.
func (in *induction) eliminated(of argument, a lazy, then *steps) api.Term {
	e := in.elim
	var parts []api.Term
	for i := range methods(&e) + 1 {
		parts = append(parts, in.own(i, of, then))
	}
	parts = append(parts, in.first(of)(then), a(then))
	return in.node(e, parts...)
}

// own makes the motive or a method of the eliminator, shifted under the function types around an argument type. Shifting it once is enough: a term with its form has small numbers.
func (in *induction) own(i int, of argument, then *steps) api.Term {
	return in.put(in.elim.L[i], term.Binds(in.elim, i), shifted(of.lifts, then).take)
}

// first is the domain of an argument type, or the parameter at which it has the family, with all that is filled in.
func (in *induction) first(of argument) lazy {
	return func(then *steps) api.Term {
		return in.put(of.typ.L[0], 0, func(n, under int) (int, lazy, *steps) { return of.take(n, under, then) })
	}
}

// pick returns one of two numbers, the second one if the motive is a proposition.
func (in *induction) pick(forType, forProposition int) int {
	if in.elim.N == 1 {
		return forProposition
	}
	return forType
}

// applied is an element of a function type, under the binder of this type, applied to its variable.
func (in *induction) applied(of argument, a lazy) lazy {
	up := func(then *steps) api.Term { return a(shifted(1, then)) }
	return in.joined(api.Term{Op: api.TApp, N: of.mark()}, up, in.given(api.Term{Op: api.TVar}))
}

func (in *induction) projected(op int, a lazy) lazy {
	return in.joined(api.Term{Op: op}, a)
}

// mark tells whether the first part of an argument type is a proposition.
func (of argument) mark() int {
	return of.typ.N & api.First
}

// part returns one of the types of an argument type.
func (of argument) part(i int) argument {
	of.depth += term.Binds(of.typ, i)
	of.shape, of.typ = of.shape.parts[i], of.typ.L[i]
	return of
}

func (of argument) codomain() argument {
	of = of.part(1)
	of.lifts++
	return of
}

// filled fills a value in for the variable that is bound last.
func (of argument) filled(value lazy) argument {
	of.fills = &filling{value, of.depth, of.fills}
	return of
}

// take is steps.take for all that is filled in, and then the steps. A value has no variables for the fillings behind its own: these make its numbers less.
func (of argument) take(n, under int, then *steps) (int, lazy, *steps) {
	if n < under || n > farthest {
		return n, nil, nil
	}
	f, within := of.fills, 0
	depth := of.depth + under - n
	for f != nil && f.depth > depth {
		f = f.before
		within++
	}
	if f != nil && f.depth == depth {
		return 0, f.value, shifted(n, shifted(-within, then.below(under)))
	}
	return then.take(n-within, under)
}
