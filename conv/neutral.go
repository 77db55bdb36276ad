package conv

import (
	"tenet/api"
	"tenet/table"
	"tenet/term"
)

// goOn goes on with a comparison when two neutral terms are equal, as far as no task is open; it gets their type.
type goOn func(of lazy) bool

// ignored goes on with nothing.
func ignored(lazy) bool {
	return true
}

// neutral compares two neutral terms.
func (c *comparer) neutral(ctx *scope, n, m api.Term, then goOn) bool {
	if n.Op != m.Op {
		return false
	}
	switch n.Op {
	case api.TVar:
		of := ctx.typeOf(n.N)
		return n.N == m.N && of != nil && then(of)
	case api.TConst:
		return sameName(n, m) && then(c.constant(ctx, n))
	case api.TApp:
		return c.next(c.examined(ctx, n, m, 0, func(of lazy) bool { return c.arguments(ctx, n, m, of, then) }))
	case api.TFst, api.TSnd:
		return c.next(c.examined(ctx, n, m, 0, func(of lazy) bool {
			return c.next(func() bool { return then(c.component(ctx, n, of)) })
		}))
	case api.TElim:
		return c.eliminators(ctx, n, m, then)
	case api.TOut:
		return c.outs(ctx, n, m, then)
	case api.TCast:
		from, to := c.types(ctx, ctx.parts(n, m, 0)), c.types(ctx, ctx.parts(n, m, 1))
		element := c.elements(ctx, ctx.given(n.L[0]), ctx.parts(n, m, 3))
		return c.next(from, to, element, func() bool { return then(ctx.given(n.L[1])) })
	case api.TAbsurd:
		return c.next(c.types(ctx, ctx.parts(n, m, 0)), func() bool { return then(ctx.given(n.L[0])) })
	}
	return false
}

// examined compares the parts at a place of two neutral terms, which are neutral terms as well.
func (c *comparer) examined(ctx *scope, n, m api.Term, i int, then goOn) task {
	return func() bool { return c.neutral(ctx, n.L[i], m.L[i], then) }
}

// constant returns the type of a TConst.
func (c *comparer) constant(ctx *scope, n api.Term) lazy {
	return later(func() delayed {
		of, code := table.TypeOf(c.table, n.S, n.U)
		if code != api.OK {
			return delayed{}
		}
		return ctx.delay(of)
	})
}

// arguments goes on with two applications whose functions are equal and have a type.
func (c *comparer) arguments(ctx *scope, n, m api.Term, of lazy, then goOn) bool {
	function := c.headed(ctx, of, api.TPi)
	var tasks []task
	if n.N&api.First == 0 {
		domain := later(func() delayed { return function().part(0) })
		tasks = append(tasks, c.elements(ctx, domain, ctx.parts(n, m, 1)))
	}
	codomain := later(func() delayed { return function().part(1, ctx.delay(n.L[1])) })
	return c.next(append(tasks, func() bool { return then(codomain) })...)
}

// component returns the type of a projection of a pair that has a type.
func (c *comparer) component(ctx *scope, n api.Term, of lazy) lazy {
	pair := c.headed(ctx, of, api.TSigma)
	return later(func() delayed {
		if n.Op == api.TFst {
			return pair().part(0)
		}
		return pair().part(1, ctx.delay(api.Term{Op: api.TFst, L: n.L}))
	})
}

// headed returns the head of a type, none if that has not the Op.
func (c *comparer) headed(ctx *scope, of lazy, op int) lazy {
	return later(func() delayed {
		a := c.head(ctx, of())
		if a.term.Op != op {
			return delayed{}
		}
		return a
	})
}

// eliminators compares two TElims.
func (c *comparer) eliminators(ctx *scope, n, m api.Term, then goOn) bool {
	if n.N != m.N || len(n.L) != len(m.L) || !sameName(n, m) {
		return false
	}
	last := len(n.L) - 1
	param := c.parameter(ctx, n)
	inside := ctx.with(param)
	data := api.Term{Op: api.TData, S: n.S, U: n.U, L: []api.Term{variable(0)}}
	tasks := []task{c.types(inside.with(inside.given(data)), ctx.parts(n, m, 0))}
	if n.N == 0 {
		for k := range last - 2 {
			tasks = append(tasks, c.method(ctx, inside, n, m, k))
		}
	}
	tasks = append(tasks, c.elements(ctx, param, ctx.parts(n, m, last-1)))
	return c.next(append(tasks, c.examined(ctx, n, m, last, func(lazy) bool {
		return then(ctx.given(n.L[0], ctx.delay(n.L[last-1]), ctx.delay(n.L[last])))
	}))...)
}

// method compares the methods k of two TElims; inside is the context with the parameter. A method that has no type is equal to none, not even to itself.
func (c *comparer) method(ctx, inside *scope, n, m api.Term, k int) task {
	return func() bool {
		arg, c1 := table.Arg(c.table, n.S, n.U, k, variable(0))
		hypotheses, c2 := table.Hypotheses(c.table, motiveAlone(n), k, variable(1), variable(0))
		if c1 != api.OK || c2 != api.OK {
			return false
		}
		inside := inside.with(inside.given(arg))
		inside = inside.with(inside.given(hypotheses))
		con := api.Term{Op: api.TCon, S: n.S, U: n.U, N: k, L: []api.Term{variable(2), variable(1)}}
		of := ctx.given(n.L[0], inside.delay(variable(2)), inside.delay(con))
		return c.next(c.elements(inside, of, ctx.parts(n, m, k+1)))
	}
}

// motiveAlone returns a TElim under two binders more, with nothing in place of all parts but the motive: its hypotheses are the same, however large these parts are.
func motiveAlone(n api.Term) api.Term {
	l := make([]api.Term, len(n.L))
	for i := range l {
		l[i] = api.Term{Op: api.TStar}
	}
	l[0], _ = term.Shift(n.L[0], 2, 2)
	n.L = l
	return n
}

// outs compares two TOuts.
func (c *comparer) outs(ctx *scope, n, m api.Term, then goOn) bool {
	if n.N != m.N {
		return false
	}
	q := ctx.given(n.L[0])
	tasks := []task{c.types(ctx, ctx.parts(n, m, 0)), c.types(ctx.with(q), ctx.parts(n, m, 1))}
	if n.N == 0 {
		quotient := c.headed(ctx, q, api.TQuo)
		inside := ctx.with(later(func() delayed { return quotient().part(0) }))
		class := api.Term{Op: api.TClass, L: []api.Term{variable(1), variable(0)}}
		of := ctx.given(n.L[1], inside.delay(class, q(), inside.delay(variable(0))))
		tasks = append(tasks, c.elements(inside, of, ctx.parts(n, m, 2)))
	}
	return c.next(append(tasks, c.examined(ctx, n, m, 4, func(lazy) bool {
		return then(ctx.given(n.L[1], ctx.delay(n.L[4])))
	}))...)
}
