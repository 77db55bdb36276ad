package conv

import (
	"slices"

	"tenet/api"
	"tenet/term"
)

// side is one of two terms that are compared.
type side struct {
	delayed
	owed int // steps that were done, and are paid when the term is brought to a head: a type may let see so little that it never is
}

// pair is two terms that are compared in one context. Where they differ is found once, and not again for their parts, so that terms may be deep.
type pair struct {
	a, b  side
	known bool
	gap   []int // if it is known: the difference of both
	apart *int  // how many pairs were taken apart to compare the terms of which these are used
}

func (s *scope) pair(a, b api.Term) pair {
	return pair{a: side{delayed: s.delay(a)}, b: side{delayed: s.delay(b)}, apart: new(int)}
}

// parts returns the parts of two terms at a place, in the context in which these parts are.
func (s *scope) parts(a, b api.Term, i int) pair {
	return s.pair(a, b).part(i)
}

// alike reports whether both terms are Alike.
func (p *pair) alike() bool {
	if !p.known {
		p.known, p.gap = true, difference(&p.a.term, &p.b.term)
	}
	return p.gap == nil
}

// part returns the parts at a place of two terms that have one form.
func (p pair) part(i int) pair {
	q := pair{a: p.a.down(i), b: p.b.down(i), apart: new(int)}
	if !p.known || p.gap == nil || p.gap[0] < i {
		return q
	}
	q.known = true
	if p.gap[0] == i {
		q.gap = within(p.gap)
	}
	return q
}

// applied returns both functions applied to a variable of a context with one more.
func (p pair) applied(mark int, x delayed) pair {
	return p.used(api.TLam, 1, func(s side) side { return s.applied(mark, x) })
}

// projected returns the first or the second parts of both pairs.
func (p pair) projected(op int) pair {
	return p.used(api.TPair, partOf(op), func(s side) side { return s.projected(op) })
}

// used returns what becomes of both terms, which are not alike, when they are used: the part at a place of those with an Op. If one of them has it not, they are as little alike as before.
func (p pair) used(op, at int, use func(side) side) pair {
	q := pair{known: true, gap: root()}
	if p.a.term.Op == op && p.b.term.Op == op {
		q = p.part(at)
	}
	q.a, q.b, q.apart = use(p.a), use(p.b), p.apart
	return q
}

// down returns a part of a term of which nothing is delayed.
func (s side) down(i int) side {
	return side{delayed{term: s.term.L[i], depth: s.depth + term.Binds(s.term, i)}, s.owed}
}

// stepped returns a part of a term that is reached by a step.
func (s side) stepped(i int) side {
	s = s.down(i)
	s.owed++
	return s
}

func (s side) applied(mark int, x delayed) side {
	if s.term.Op == api.TLam {
		return s.stepped(1)
	}
	app := api.Term{Op: api.TApp, N: mark & api.First, L: []api.Term{variable(1), variable(0)}}
	return side{delayed{depth: x.depth}.inner(app, s.delayed, x), s.owed}
}

func (s side) projected(op int) side {
	if s.term.Op == api.TPair {
		return s.stepped(partOf(op))
	}
	projection := api.Term{Op: op, L: []api.Term{variable(0)}}
	return side{delayed{depth: s.depth}.inner(projection, s.delayed), s.owed}
}

// partOf returns which part of a TPair a projection is.
func partOf(op int) int {
	if op == api.TFst {
		return 2
	}
	return 3
}

// difference is Differ.
func difference(a, b *api.Term) []int {
	var path []int
	var down func(a, b *api.Term) bool
	down = func(a, b *api.Term) bool {
		if !agree(a, b) {
			return true
		}
		for i := range a.L {
			if term.IsProof(*a, i) {
				continue
			}
			path = append(path, i)
			if down(&a.L[i], &b.L[i]) {
				return true
			}
			path = path[:len(path)-1]
		}
		return false
	}
	if down(a, b) && len(path) == 0 {
		return root()
	}
	if len(path) == 0 {
		return nil
	}
	return path
}

// agree reports whether two nodes are alike by their own fields and numbers of parts.
func agree(a, b *api.Term) bool {
	if a.Op != b.Op || a.N != b.N || a.S != b.S || len(a.L) != len(b.L) {
		return false
	}
	if len(a.U) == 0 && len(b.U) == 0 {
		return true
	}
	return term.Same(api.Term{U: a.U}, api.Term{U: b.U})
}

// root is the difference of terms that differ at the root.
func root() []int {
	return []int{-1}
}

// within returns a difference as it is seen from the part where it lies.
func within(gap []int) []int {
	if len(gap) == 1 {
		return root()
	}
	return slices.Clip(gap[1:])
}
