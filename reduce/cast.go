package reduce

import "tenet/api"

// convert says what the rules say of a TCast.
func (m *machine) convert(t *node) verdict {
	from, to := t.l[0], t.l[1]
	if !from.isFormer() || !to.isFormer() {
		return examine(0, 1)
	}
	switch m.compare(from, to) {
	case agree:
		return m.rulesOf(from).cast(m, t)
	case differ:
		return fits(api.RClash, func() *node { return m.made(api.TAbsurd, 0, nil, to, t.l[2]) })
	}
	return verdict{}
}

func (m *machine) castNothing(t *node) verdict {
	return fits(api.RCast, func() *node { return t.l[3] })
}

func (m *machine) castFunction(t *node) verdict {
	from, to := t.l[0], t.l[1]
	return fits(api.RCast, func() *node {
		proof, f, x := m.inside(t.l[2]), m.inside(t.l[3]), m.bound(0)
		z := m.moved(t, from.n, m.inside(to.l[0]), m.inside(from.l[0]), proof, x)
		value := m.app(from.n, f, z)
		types := m.app(from.n, m.snd(proof), x)
		body := m.cast(t.u[0], m.filled(m.shifted(from.l[1], 1, 1), z), to.l[1], types, value)
		return m.made(api.TLam, from.n, nil, to.l[0], body)
	})
}

func (m *machine) castPair(t *node) verdict {
	from, to, proof, p := t.l[0], t.l[1], t.l[2], t.l[3]
	return fits(api.RCast, func() *node {
		x, y := m.fst(p), m.snd(p)
		u := m.moved(t, from.n, from.l[0], to.l[0], proof, x)
		types := m.app(from.n, m.snd(proof), x)
		var v *node
		if from.n&api.Second != 0 {
			v = m.app(api.First, m.fst(types), y)
		} else {
			v = m.cast(t.u[0], m.filled(from.l[1], x), m.filled(to.l[1], u), types, y)
		}
		return m.made(api.TPair, from.n, nil, to.l[0], to.l[1], u, v)
	})
}

// moved returns an element of the first part of a type, cast by the first part of a proof as the node t says; or only used as a proof, if First is in the marks.
func (m *machine) moved(t *node, marks int, from, to, proof, x *node) *node {
	if marks&api.First != 0 {
		return m.app(marks, m.fst(m.fst(proof)), x)
	}
	return m.cast(t.u[0], from, to, m.fst(proof), x)
}

func (m *machine) castClass(t *node) verdict {
	from, to, proof, c := t.l[0], t.l[1], t.l[2], t.l[3]
	if !c.is(api.TClass) {
		return examine(3)
	}
	return fits(api.RCast, func() *node {
		part := m.cast(t.u[0], from.l[0], to.l[0], m.fst(proof), c.l[1])
		return m.made(api.TClass, 0, nil, to, part)
	})
}

// castCon says what the rules say of a TCast between two types of one family, with the same levels.
func (m *machine) castCon(t *node) verdict {
	from, to, proof, c := t.l[0], t.l[1], t.l[2], t.l[3]
	if !isCon(c, from.s) {
		return examine(3)
	}
	if !m.declared(c) {
		return verdict{}
	}
	f, ok1 := m.family(from)
	arg, ok2 := m.arg(from, c)
	if !ok1 || !ok2 {
		return verdict{}
	}
	return fits(api.RCast, func() *node {
		first, second, each := m.at(arg, from.l[0]), m.at(arg, to.l[0]), m.at(arg, m.bound(0))
		e := equation{level: f.over, typ: f.param, from: from.l[0], to: to.l[0], proof: proof}
		types := m.along(e, f.sort, f.up, first, each)
		out := *c
		out.u, out.l = to.u, []*node{to.l[0], m.cast(f.sort, first, second, types, c.l[1])}
		return m.counted(out)
	})
}
