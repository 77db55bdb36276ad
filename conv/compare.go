package conv

import (
	"slices"

	"tenet/api"
	"tenet/level"
	"tenet/table"
)

// comparer compares terms, with a table and the fuel that is left.
type comparer struct {
	counter
	agenda
	table api.Table
}

// types compares two types.
func (c *comparer) types(ctx *scope, p pair) task {
	return func() bool { return p.alike() || c.meet(ctx, p, c.typeHeads) }
}

// elements compares two elements of a type.
func (c *comparer) elements(ctx *scope, of lazy, p pair) task {
	return func() bool { return p.alike() || c.observe(ctx, of, p) }
}

// observe compares two elements that are not alike by what their type lets see of them.
func (c *comparer) observe(ctx *scope, of lazy, p pair) bool {
	a := c.head(ctx, of())
	switch mark := a.term.N; a.term.Op {
	case 0:
		return false
	case api.TUnit, api.TTrue, api.TFalse, api.TEq:
		// All elements of the unit are equal, and so are all proofs.
		return true
	case api.TPi:
		if mark&api.Second != 0 {
			return true
		}
		inside := ctx.with(a.part(0).lazily)
		x := inside.delay(variable(0))
		return c.next(c.elements(inside, a.part(1, x).lazily, p.applied(mark, x)))
	case api.TSigma:
		return c.next(c.components(ctx, a, p)...)
	case api.TType, api.TProp:
		return c.meet(ctx, p, c.typeHeads)
	}
	return c.meet(ctx, p, func(ctx *scope, p pair) bool { return c.elementHeads(ctx, a, p) })
}

// mostApart is more than how many pairs there are in a type of MaxTerm nodes. Where types share their parts, there may be 2^60 pairs in a small one: they cannot be taken apart one by one, though none of them needs a step.
const mostApart = 1 << 20

// components compares the parts of two pairs that are no proofs.
func (c *comparer) components(ctx *scope, a delayed, p pair) []task {
	if *p.apart++; *p.apart > mostApart {
		c.giveUp()
	}
	first, second := p.projected(api.TFst), p.projected(api.TSnd)
	var tasks []task
	if a.term.N&api.First == 0 {
		tasks = append(tasks, c.elements(ctx, a.part(0).lazily, first))
	}
	if a.term.N&api.Second == 0 {
		tasks = append(tasks, c.elements(ctx, a.part(1, first.a.delayed).lazily, second))
	}
	return tasks
}

// heads compares two terms that are heads.
type heads func(ctx *scope, p pair) bool

// meet brings two terms to their heads and compares these. Definitions are unfolded in order, so that those that are left alone need not be.
func (c *comparer) meet(ctx *scope, p pair, compare heads) bool {
	c.pay(p.a.owed + p.b.owed)
	left := c.left
	x, y := c.front(ctx, p.a), c.front(ctx, p.b)
	q := ctx.pair(x.term, y.term)
	if c.left == left && p.a.isMade(ctx.depth) && p.b.isMade(ctx.depth) {
		q.known, q.gap = p.known, p.gap
	}
	return c.unfoldInOrder(ctx, q, x, y, compare)
}

// unfoldInOrder does what is left of meet for a pair, of which the fronts are known.
func (c *comparer) unfoldInOrder(ctx *scope, p pair, x, y front, compare heads) bool {
	left := c.left
	for x.stops() && y.stops() {
		if x.place == y.place && sameName(x.def, y.def) {
			return c.attempt(func() bool {
				return c.neutral(ctx, x.term, y.term, ignored)
			}, func() bool {
				x, y := c.unfolded(x), c.unfolded(y)
				return c.unfoldInOrder(ctx, ctx.pair(x.term, y.term), x, y, compare)
			})
		}
		i, j := x.place, y.place
		if i >= j {
			x = c.unfolded(x)
		}
		if j >= i {
			y = c.unfolded(y)
		}
	}
	// One of them at most is left to be unfolded, so there is no order any more.
	a, b := c.finished(x), c.finished(y)
	if c.left < left {
		p = ctx.pair(a, b)
	}
	return compare(ctx, p)
}

// elementHeads compares two heads that are elements of a family, of a quotient, or of a type that is not known; a is its head.
func (c *comparer) elementHeads(ctx *scope, a delayed, p pair) bool {
	x, y := p.a.term, p.b.term
	switch {
	case a.term.Op == api.TData && x.Op == api.TCon && y.Op == api.TCon && x.S == y.S && x.N == y.N:
		return c.next(c.elements(ctx, c.argument(ctx, a, x.N), p.part(1)))
	case a.term.Op == api.TQuo && x.Op == api.TClass && y.Op == api.TClass:
		return c.next(c.elements(ctx, a.part(0).lazily, p.part(1)))
	}
	return c.neutral(ctx, x, y, ignored)
}

// argument returns the type of the argument of a constructor of a family.
func (c *comparer) argument(ctx *scope, family delayed, k int) lazy {
	return later(func() delayed {
		data := family.term
		arg, code := table.Arg(c.table, data.S, data.U, k, variable(0))
		if code != api.OK {
			return delayed{}
		}
		return ctx.delay(arg, family.part(0))
	})
}

// typeHeads compares two heads that are types.
func (c *comparer) typeHeads(ctx *scope, p pair) bool {
	a, b := p.a.term, p.b.term
	if a.Op != b.Op {
		return false
	}
	switch a.Op {
	case api.TUnit, api.TProp, api.TTrue, api.TFalse:
		return true
	case api.TType:
		return level.Equal(a.U[0], b.U[0])
	case api.TPi, api.TSigma:
		inside := ctx.with(ctx.given(a.L[0]))
		return a.N == b.N && c.next(c.types(ctx, p.part(0)), c.types(inside, p.part(1)))
	case api.TQuo:
		of := ctx.given(a.L[0])
		return c.next(c.types(ctx, p.part(0)), c.types(ctx.with(of).with(of), p.part(1)))
	case api.TData:
		return sameName(a, b) && c.next(c.elements(ctx, c.parameter(ctx, a), p.part(0)))
	case api.TEq:
		of := ctx.given(a.L[0])
		return c.next(c.types(ctx, p.part(0)), c.elements(ctx, of, p.part(1)), c.elements(ctx, of, p.part(2)))
	}
	return c.neutral(ctx, a, b, ignored)
}

// parameter returns the type of the parameter of the family that a node names.
func (c *comparer) parameter(ctx *scope, t api.Term) lazy {
	return later(func() delayed {
		param, code := table.Param(c.table, t.S, t.U)
		if code != api.OK {
			return delayed{}
		}
		return ctx.delay(param)
	})
}

// sameName reports whether two nodes name the same with the same levels.
func sameName(a, b api.Term) bool {
	return a.S == b.S && slices.EqualFunc(a.U, b.U, level.Equal)
}
