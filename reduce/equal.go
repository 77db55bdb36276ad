package reduce

import (
	"tenet/api"
	"tenet/level"
	"tenet/table"
)

// equate says what the rules say of a TEq.
func (m *machine) equate(t *node) verdict {
	f := m.rulesOf(t.l[0]).equal
	if f == nil {
		return examine(0)
	}
	return f(m, t)
}

func (m *machine) equalFunctions(t *node) verdict {
	typ := t.l[0]
	return fits(api.REqPi, func() *node {
		x := m.bound(0)
		a, b := m.app(typ.n, m.inside(t.l[1]), x), m.app(typ.n, m.inside(t.l[2]), x)
		return m.pi(typ.n|api.Second, typ.l[0], m.eq(t.u[0], typ.l[1], a, b))
	})
}

// equalPairs is about pairs that are no proofs as a whole.
func (m *machine) equalPairs(t *node) verdict {
	l, typ, a, b := t.u[0], t.l[0], t.l[1], t.l[2]
	switch typ.n {
	case api.Second:
		return fits(api.REqPair, func() *node { return m.eq(l, typ.l[0], m.fst(a), m.fst(b)) })
	case api.First:
		return fits(api.REqPair, func() *node {
			return m.eq(l, m.filled(typ.l[1], m.fst(b)), m.snd(a), m.snd(b))
		})
	case 0:
		up, code := level.Suc(l)
		if code != api.OK {
			return verdict{}
		}
		return fits(api.REqPair, func() *node { return m.equalParts(t, up) })
	}
	return verdict{}
}

// equalParts returns what an equation of pairs becomes if no part is a proof. The second parts have different types: so one is cast, along the equation of the first parts.
func (m *machine) equalParts(t *node, up api.Level) *node {
	l, typ, a, b := t.u[0], t.l[0], t.l[1], t.l[2]
	x, y := m.fst(a), m.fst(b)
	firsts := m.eq(l, typ.l[0], x, y)
	from, to := m.inside(m.filled(typ.l[1], x)), m.inside(m.filled(typ.l[1], y))
	e := equation{level: l, typ: m.inside(typ.l[0]), from: m.inside(x), to: m.inside(y), proof: m.bound(0)}
	s := m.along(e, l, up, from, m.shifted(typ.l[1], 1, 1))
	moved := m.cast(l, from, to, s, m.inside(m.snd(a)))
	return m.both(firsts, m.eq(l, to, moved, m.inside(m.snd(b))))
}

func (m *machine) equalUnits(t *node) verdict {
	return fits(api.REqUnit, func() *node { return m.leaf(api.TTrue) })
}

func (m *machine) equalProps(t *node) verdict {
	a, b := t.l[1], t.l[2]
	proofs := api.First | api.Second
	return fits(api.REqProp, func() *node {
		there := m.pi(proofs, a, m.inside(b))
		back := m.pi(proofs, m.inside(b), m.shifted(a, 2, 0))
		return m.both(there, back)
	})
}

func (m *machine) equalCons(t *node) verdict {
	data, a, b := t.l[0], t.l[1], t.l[2]
	switch {
	case !m.declared(data):
		return verdict{}
	case !isCon(a, data.s) || !isCon(b, data.s):
		return examine(1, 2)
	case !m.declared(a) || !m.declared(b):
		return verdict{}
	case a.n != b.n:
		return fits(api.REqCon, func() *node { return m.leaf(api.TFalse) })
	}
	sort, code := table.Sort(m.table, data.s, data.u)
	arg, ok := m.arg(data, a)
	if code != api.OK || !ok {
		return verdict{}
	}
	return fits(api.REqCon, func() *node { return m.eq(sort, m.at(arg, data.l[0]), a.l[1], b.l[1]) })
}

func (m *machine) equalClasses(t *node) verdict {
	a, b := t.l[1], t.l[2]
	if !a.is(api.TClass) || !b.is(api.TClass) {
		return examine(1, 2)
	}
	return fits(api.REqQuo, func() *node { return m.filled(t.l[0].l[1], b.l[1], a.l[1]) })
}
