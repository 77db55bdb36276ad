package table

import (
	"tenet/api"
	"tenet/term"
)

// Hypotheses is described in P4.4.
func Hypotheses(t api.Table, e api.Term, k int, p, a api.Term) (api.Term, api.Errno) {
	in, of, code := induct(t, e, k, p)
	if code != api.OK {
		return api.Term{}, code
	}
	return in.result(in.hypotheses(of, in.given(a), 0))
}

// Values is described in P4.4.
func Values(t api.Table, e api.Term, k int, p, a api.Term) (api.Term, api.Errno) {
	in, of, code := induct(t, e, k, p)
	if code != api.OK {
		return api.Term{}, code
	}
	return in.result(in.values(of, in.given(a), 0))
}

// induction makes the hypotheses of an eliminator, and their values.
type induction struct {
	maker
	elim api.Term
}

// argument is an argument type: as it is declared, but for the levels, and with values for its variables.
type argument struct {
	shape shape
	typ   api.Term
	vals  *binding
}

// induct returns the whole argument type of the constructor k for a parameter.
func induct(t api.Table, e api.Term, k int, p api.Term) (*induction, argument, api.Errno) {
	if e.Op != api.TElim || !term.Form(e) {
		return nil, argument{}, api.ErrForm
	}
	d, typ, code := openArg(t, e.S, e.U, k)
	if code != api.OK {
		return nil, argument{}, code
	}
	if methods(&e) != len(d.Cons) {
		return nil, argument{}, api.ErrArity
	}
	in := &induction{elim: e}
	return in, argument{shapeOf(d, d.Cons[k].Arg).counted(), typ, bind(nil, in.given(p))}, api.OK
}

// hypotheses makes H of an argument type and an element of it.
func (in *induction) hypotheses(of argument, a lazy, depth int) api.Term {
	if in.isFull() {
		return api.Term{}
	}
	switch of.shape.kind {
	case recursive:
		return in.put(in.elim.L[0], bind(bind(nil, in.parameter(of)), a), depth, 0)
	case function:
		x := in.variable(depth)
		domain := in.put(of.typ.L[0], of.vals, depth, 0)
		codomain := in.hypotheses(of.second(x), in.applied(of, a, x), depth+1)
		return in.node(api.Term{Op: api.TPi, N: of.mark() | in.pick(0, api.Second)}, domain, codomain)
	case pair:
		first, second := in.halves(of, a, depth)
		return in.node(api.Term{Op: api.TSigma, N: in.pick(0, api.First|api.Second)}, first, second)
	}
	return in.node(api.Term{Op: in.pick(api.TUnit, api.TTrue)})
}

// values makes V of an argument type and an element of it.
func (in *induction) values(of argument, a lazy, depth int) api.Term {
	if in.isFull() {
		return api.Term{}
	}
	switch of.shape.kind {
	case recursive:
		return in.eliminated(in.parameter(of), a, depth)
	case function:
		x := in.variable(depth)
		domain := in.put(of.typ.L[0], of.vals, depth, 0)
		body := in.values(of.second(x), in.applied(of, a, x), depth+1)
		return in.node(api.Term{Op: api.TLam, N: of.mark()}, domain, body)
	case pair:
		first, second := in.halves(of, a, depth)
		x := in.projected(api.TFst, a)
		u := in.values(of.first(), x, depth)
		v := in.values(of.second(x), in.projected(api.TSnd, a), depth)
		return in.node(api.Term{Op: api.TPair, N: in.pick(0, api.First|api.Second)}, first, second, u, v)
	}
	return in.node(api.Term{Op: in.pick(api.TStar, api.TTrivial)})
}

// halves makes the two types of H for a pair type. The second one has a variable more around it, which does not occur in it.
func (in *induction) halves(of argument, a lazy, depth int) (api.Term, api.Term) {
	x := in.projected(api.TFst, a)
	first := in.hypotheses(of.first(), x, depth)
	second := in.hypotheses(of.second(x), in.projected(api.TSnd, a), depth+1)
	return first, second
}

// eliminated makes the eliminator with another parameter and element.
func (in *induction) eliminated(parameter, a lazy, depth int) api.Term {
	e := in.elim
	var parts []api.Term
	for i := range methods(&e) + 1 {
		parts = append(parts, in.put(e.L[i], nil, depth, term.Binds(e, i)))
	}
	parts = append(parts, parameter(depth), a(depth))
	return in.node(e, parts...)
}

// parameter is the parameter at which a recursive argument type has the family.
func (in *induction) parameter(of argument) lazy {
	return func(depth int) api.Term { return in.put(of.typ.L[0], of.vals, depth, 0) }
}

// pick returns one of two numbers, the second one if the motive is a proposition.
func (in *induction) pick(forType, forProposition int) int {
	if in.elim.N == 1 {
		return forProposition
	}
	return forType
}

// applied is an element of a function type applied to a variable.
func (in *induction) applied(of argument, a, x lazy) lazy {
	return in.joined(api.Term{Op: api.TApp, N: of.mark()}, a, x)
}

func (in *induction) projected(op int, a lazy) lazy {
	return in.joined(api.Term{Op: op}, a)
}

// mark tells whether the first part of an argument type is a proposition.
func (of argument) mark() int {
	return of.typ.N & api.First
}

func (of argument) first() argument {
	return argument{of.shape.parts[0], of.typ.L[0], of.vals}
}

// second is the second type, or the codomain, with a value for the variable that it binds.
func (of argument) second(x lazy) argument {
	return argument{of.shape.parts[1], of.typ.L[1], bind(of.vals, x)}
}
