package reduce

import "tenet/api"

// made returns a node that has its form.
func (m *maker) made(op, mark int, u []api.Level, parts ...*node) *node {
	m.provide(len(parts))
	return m.counted(node{op: op, n: mark, u: u, l: parts, own: true})
}

// bound returns the variable that is bound i binders further out.
func (m *maker) bound(i int) *node {
	return m.made(api.TVar, i, nil)
}

func (m *maker) leaf(op int) *node {
	return m.made(op, 0, nil)
}

func (m *maker) universe(l api.Level) *node {
	return m.made(api.TType, 0, []api.Level{l})
}

func (m *maker) pi(mark int, domain, codomain *node) *node {
	return m.made(api.TPi, mark, nil, domain, codomain)
}

func (m *maker) sigma(mark int, first, second *node) *node {
	return m.made(api.TSigma, mark, nil, first, second)
}

// inside returns a term under one binder more.
func (m *maker) inside(t *node) *node {
	return m.shifted(t, 1, 0)
}

// both returns the proposition that two propositions hold, the second one of which may use a proof of the first one.
func (m *maker) both(first, second *node) *node {
	return m.sigma(api.First|api.Second, first, second)
}

// app returns an application of a function whose type has some marks.
func (m *maker) app(marks int, f, a *node) *node {
	return m.made(api.TApp, marks&api.First, nil, f, a)
}

func (m *maker) fst(p *node) *node {
	return m.made(api.TFst, 0, nil, p)
}

func (m *maker) snd(p *node) *node {
	return m.made(api.TSnd, 0, nil, p)
}

func (m *maker) eq(l api.Level, typ, a, b *node) *node {
	return m.made(api.TEq, 0, []api.Level{l}, typ, a, b)
}

// iff returns the equation of two propositions.
func (m *maker) iff(a, b *node) *node {
	return m.eq(api.Level{}, m.leaf(api.TProp), a, b)
}

func (m *maker) refl(l api.Level, typ, a *node) *node {
	return m.made(api.TRefl, 0, []api.Level{l}, typ, a)
}

func (m *maker) cast(l api.Level, from, to, proof, a *node) *node {
	return m.made(api.TCast, 0, []api.Level{l}, from, to, proof, a)
}

// equation is a proof that two elements of a type, which is of a level, are equal.
type equation struct {
	level    api.Level
	typ      *node
	from, to *node
	proof    *node
}

// along returns a proof that two types of the level l, above which there is the level up, are equal: those that a family of types has at the two sides of an equation. The family has the variable 0 for an element; start is its type at the first side.
func (m *maker) along(e equation, l, up api.Level, start, family *node) *node {
	types := m.universe(l)
	same := m.eq(up, types, m.inside(start), family)
	return m.made(api.TSubst, 0, []api.Level{e.level}, e.typ, same, e.from, e.to, e.proof, m.refl(up, types, start))
}
