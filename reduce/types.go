package reduce

import (
	"tenet/api"
	"tenet/level"
	"tenet/table"
)

// equalTypes says what the rules say of a TEq of two types.
func (m *machine) equalTypes(t *node) verdict {
	a, b := t.l[1], t.l[2]
	if !a.isFormer() || !b.isFormer() {
		return examine(1, 2)
	}
	switch m.compare(a, b) {
	case agree:
		return m.rulesOf(a).types(m, t)
	case differ:
		return fits(api.REqType, func() *node { return m.leaf(api.TFalse) })
	}
	return verdict{}
}

func (m *machine) typesHold(t *node) verdict {
	return fits(api.REqType, func() *node { return m.leaf(api.TTrue) })
}

func (m *machine) typesPi(t *node) verdict {
	a, b := t.l[1], t.l[2]
	return fits(api.REqType, func() *node {
		domains := m.domains(t, a.n, b.l[0], a.l[0])
		z := m.partner(t, a.n, b.l[0], a.l[0])
		from := m.filled(m.shifted(a.l[1], 2, 1), z)
		to := m.shifted(b.l[1], 1, 1)
		rest := m.eq(t.u[0], t.l[0], from, to)
		return m.both(domains, m.pi(a.n|api.Second, m.inside(b.l[0]), rest))
	})
}

func (m *machine) typesSigma(t *node) verdict {
	a, b := t.l[1], t.l[2]
	return fits(api.REqType, func() *node {
		firsts := m.domains(t, a.n, a.l[0], b.l[0])
		z := m.partner(t, a.n, a.l[0], b.l[0])
		from := m.shifted(a.l[1], 1, 1)
		to := m.filled(m.shifted(b.l[1], 2, 1), z)
		rest := m.eq(t.u[0], t.l[0], from, to)
		if a.n&api.Second != 0 {
			rest = m.iff(from, to)
		}
		return m.both(firsts, m.pi(a.n&api.First|api.Second, m.inside(a.l[0]), rest))
	})
}

// domains returns the equation, within that of types by the node t, of two types that are propositions if First is in the marks.
func (m *machine) domains(t *node, marks int, from, to *node) *node {
	if marks&api.First != 0 {
		return m.iff(from, to)
	}
	return m.eq(t.u[0], t.l[0], from, to)
}

// partner returns what goes along in the second type with the variable 0 of the first one, under the binders of the proof that they are equal and of this variable.
func (m *machine) partner(t *node, marks int, from, to *node) *node {
	proof, x := m.bound(1), m.bound(0)
	if marks&api.First != 0 {
		return m.app(marks, m.fst(proof), x)
	}
	return m.cast(t.l[0].u[0], m.shifted(from, 2, 0), m.shifted(to, 2, 0), proof, x)
}

// typesQuo is about quotients: under the binder of the proof that their types are equal, two variables of the first type are bound.
func (m *machine) typesQuo(t *node) verdict {
	a, b := t.l[1], t.l[2]
	return fits(api.REqType, func() *node {
		k := t.l[0].u[0]
		from, to := m.shifted(a.l[0], 3, 0), m.shifted(b.l[0], 3, 0)
		x := m.cast(k, from, to, m.bound(2), m.bound(1))
		y := m.cast(k, from, to, m.bound(2), m.bound(0))
		same := m.iff(m.shifted(a.l[1], 1, 2), m.filled(m.shifted(b.l[1], 3, 2), y, x))
		inner := m.pi(api.Second, m.shifted(a.l[0], 2, 0), same)
		return m.both(m.eq(t.u[0], t.l[0], a.l[0], b.l[0]), m.pi(api.Second, m.inside(a.l[0]), inner))
	})
}

func (m *machine) typesData(t *node) verdict {
	a, b := t.l[1], t.l[2]
	over, c1 := table.Over(m.table, a.s, a.u)
	param, c2 := table.Param(m.table, a.s, a.u)
	if c1 != api.OK || c2 != api.OK {
		return verdict{}
	}
	return fits(api.REqType, func() *node { return m.eq(over, m.read(param), a.l[0], b.l[0]) })
}

// How two types go together that are formers.
const (
	agree  = iota // they have one form
	differ        // they have different forms
	open          // that depends on levels, or on what the table does not have
)

// compare returns how two formers go together.
func (m *machine) compare(a, b *node) int {
	if !m.isThere(a) || !m.isThere(b) {
		return open
	}
	if a.op != b.op || a.s != b.s {
		return differ
	}
	switch a.op {
	case api.TUnit, api.TProp, api.TQuo:
		return agree
	case api.TType, api.TData:
		return compareLevels(a.u, b.u)
	case api.TPi:
		if a.n == b.n && a.n&api.Second == 0 {
			return agree
		}
	case api.TSigma:
		if a.n == b.n {
			return agree
		}
	}
	return differ
}

// isThere reports whether the table has the family of a type, if it is one.
func (m *machine) isThere(t *node) bool {
	return t.op != api.TData || m.declared(t)
}

// compareLevels compares lists of one length.
func compareLevels(u, w []api.Level) int {
	out := agree
	for i := range u {
		if below(u[i], w[i]) || below(w[i], u[i]) {
			return differ
		}
		if !level.Equal(u[i], w[i]) {
			out = open
		}
	}
	return out
}

// below reports whether a level is less than another one for all assignments. One that has no successor within the limits is greater than all that is within them.
func below(a, b api.Level) bool {
	up, code := level.Suc(a)
	return code == api.OK && level.Leq(up, b)
}
