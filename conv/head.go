package conv

import (
	"tenet/api"
	"tenet/reduce"
	"tenet/table"
	"tenet/term"
)

// head returns the head of a type.
func (c *comparer) head(ctx *scope, t delayed) delayed {
	if t.term.Op == 0 || reduce.Former(t.term) || c.isStuck(t) {
		return t
	}
	return ctx.delay(c.reduced(c.made(t, ctx.depth, mostUsed), reduce.Head))
}

// isStuck reports whether a term is seen to be a head before it is made.
func (c *comparer) isStuck(t delayed) bool {
	s, ok := core(t.term)
	switch s.Op {
	case api.TVar:
		return ok && t.stands(s.N) == nil
	case api.TConst:
		return ok && reduce.IsHead(c.table, s)
	}
	return false
}

// reducer is reduce.Head or reduce.Spine.
type reducer func(t api.Table, s api.Term, fuel int) (api.Term, int, api.Errno)

// reduced brings a term to where a reducer brings it.
func (c *comparer) reduced(s api.Term, by reducer) api.Term {
	if isHead(s) {
		return s
	}
	h, steps, code := by(c.table, s, c.left)
	switch code {
	case api.OK:
		c.pay(steps)
		return h
	case api.ErrForm:
		return c.inParts(s, by)
	}
	c.giveUp()
	return api.Term{}
}

// inParts does what reduced does for a term that layer 5 does not take: by its uses, or under many binders, a term may have become too large for it. What is used is taken alone then.
func (c *comparer) inParts(s api.Term, by reducer) api.Term {
	if !isUse(s) {
		c.giveUp()
	}
	var uses []api.Term
	for isUse(s) {
		uses = append(uses, s)
		s = s.L[0]
	}
	for s = c.reduced(s, by); len(uses) > 0; s = c.reduced(s, by) {
		part, is := c.taken(uses[len(uses)-1], s)
		if !is {
			break
		}
		c.pay(1)
		s, uses = part, uses[:len(uses)-1]
	}
	for i := len(uses) - 1; i >= 0; i-- {
		s = withFirst(uses[i], s)
	}
	return s
}

// taken returns what a use makes of a head; false if it does not take it away.
func (c *comparer) taken(use, s api.Term) (api.Term, bool) {
	switch {
	case use.Op == api.TApp && s.Op == api.TLam:
		body := delayed{}.inner(s.L[1], delayed{term: use.L[1]})
		return c.made(body, 0, api.MaxTerm), true
	case use.Op != api.TApp && s.Op == api.TPair:
		return s.L[partOf(use.Op)], true
	}
	return api.Term{}, false
}

// isUse reports whether a term is a function applied or a pair projected.
func isUse(s api.Term) bool {
	return (s.Op == api.TApp || s.Op == api.TFst || s.Op == api.TSnd) && len(s.L) > 0
}

// withFirst returns a term with another first part.
func withFirst(s, first api.Term) api.Term {
	s.L = append([]api.Term{first}, s.L[1:]...)
	return s
}

// isHead reports whether a term is seen to be a head by its form alone. It saves asking layer 5 for what stands fast already.
func isHead(s api.Term) bool {
	s, ok := core(s)
	switch s.Op {
	case api.TConst, api.TEq, api.TCast:
		return false
	}
	return ok
}

// core returns the innermost part that is examined of functions that are applied, pairs that are projected, and what is eliminated or taken out; false if it is one that this takes away.
func core(s api.Term) (api.Term, bool) {
	for {
		at, taken := 0, 0
		switch s.Op {
		case api.TApp:
			taken = api.TLam
		case api.TFst, api.TSnd:
			taken = api.TPair
		case api.TElim:
			at, taken = len(s.L)-1, api.TCon
		case api.TOut:
			at, taken = len(s.L)-1, api.TClass
		default:
			return s, true
		}
		s = s.L[at]
		if s.Op == taken {
			return s, false
		}
	}
}

// front is a term without steps, but that it may stop in front of an unfolding.
type front struct {
	term  api.Term
	def   api.Term // the constant that would be unfolded, the zero term if there is none
	place int      // where this definition stands in the table, -1 if there is none
}

func (f front) stops() bool {
	return f.place >= 0
}

// mostUsed is how many nodes a term has at most that is used: MaxTerm, and two for each use where there are 2^16 levels of these.
const mostUsed = api.MaxTerm + 1<<17

// front brings a side to where it stops in front of an unfolding, or to its head.
func (c *comparer) front(ctx *scope, s side) front {
	return c.stopped(c.made(s.delayed, ctx.depth, mostUsed))
}

// stopped is front for a term that is made.
func (c *comparer) stopped(s api.Term) front {
	f := front{term: c.reduced(s, reduce.Spine), place: -1}
	if isHead(f.term) {
		return f
	}
	used := f.term
	for isUse(used) {
		used = used.L[0]
	}
	path, stops := reduce.Place(c.table, used)
	if !stops {
		return f
	}
	f.def, _, _ = term.At(used, path)
	f.place = table.Find(c.table, f.def.S)
	return f
}

// finished brings a term to its head.
func (c *comparer) finished(f front) api.Term {
	if !f.stops() {
		return f.term
	}
	return c.reduced(f.term, reduce.Head)
}

// unfolded does the step in front of which a term stops, and goes on.
func (c *comparer) unfolded(f front) front {
	c.pay(1)
	return c.stopped(c.unfold(f.term))
}

func (c *comparer) unfold(s api.Term) api.Term {
	if isUse(s) {
		return withFirst(s, c.unfold(s.L[0]))
	}
	out, code := reduce.Times(c.table, s, 1)
	if code != api.OK {
		c.giveUp()
	}
	return out
}
