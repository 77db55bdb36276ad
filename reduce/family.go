package reduce

import (
	"tenet/api"
	"tenet/level"
	"tenet/table"
	"tenet/term"
)

// declared reports whether the table has what a node names: a family, with as many levels, and with the constructor if the node is one.
func (m *machine) declared(t *node) bool {
	i := table.Find(m.table, t.s)
	if i < 0 {
		return false
	}
	d := &m.table.Decls[i]
	if d.Kind != api.KData || d.Levels != len(t.u) {
		return false
	}
	return t.op != api.TCon || t.n < len(d.Cons)
}

// values returns what the hypotheses of a constructor's method are filled with; false if the table makes none, or if they are too many nodes.
func (m *machine) values(t, c *node) (*node, bool) {
	if !t.form {
		return nil, false
	}
	e := api.Term{Op: t.op, N: t.n, S: t.s, U: t.u}
	f := filling{by: copied(t.l), standIns: true}
	for i := range t.l {
		e.L = append(e.L, standFor(i))
		f.binds = append(f.binds, m.binds(t, i))
	}
	// Values are filled into the motive, so nothing can stand for it.
	e.L[0] = t.l[0].term()
	// In place of the eliminator's own parameter and element, which do not matter, there are those of the constructor.
	last := len(t.l) - 1
	copy(f.by[last-1:], c.l)
	v, code := table.Values(m.table, e, c.n, e.L[last-1], e.L[last])
	if code != api.OK {
		return nil, false
	}
	out := m.put(m.read(v), f, api.MaxTerm)
	return out, out.size <= api.MaxTerm
}

// arg returns the type of the argument of a family's constructor, with a stand-in for the parameter.
func (m *machine) arg(data *node, k int) (*node, bool) {
	a, code := table.Arg(m.table, data.s, data.u, k, standFor(0))
	if code != api.OK {
		return nil, false
	}
	return m.read(a), true
}

// at returns the type of an argument for a parameter.
func (m *machine) at(arg, parameter *node) *node {
	return m.put(arg, filling{by: []*node{parameter}, standIns: true}, m.most)
}

// family is what the table says of a family with levels.
type family struct {
	over, sort, up api.Level // up is the level above sort
	param          *node
}

// family returns what the table says of a family; false if one of the levels is above a limit.
func (m *machine) family(data *node) (family, bool) {
	over, c1 := table.Over(m.table, data.s, data.u)
	sort, c2 := table.Sort(m.table, data.s, data.u)
	up, c3 := level.Suc(sort)
	param, c4 := table.Param(m.table, data.s, data.u)
	for _, code := range []api.Errno{c1, c2, c3, c4} {
		if code != api.OK {
			return family{}, false
		}
	}
	return family{over, sort, up, m.read(param)}, true
}

// isNatural reports whether a term is a constructor of a family with one natural number's constructors. Where all Args are argument types, a TData of the family itself is recursive.
func (m *machine) isNatural(t *node) bool {
	if !t.is(api.TCon) || !m.declared(t) {
		return false
	}
	d := m.table.Decls[table.Find(m.table, t.s)]
	if len(d.Cons) != 2 || !term.Same(d.Cons[0].Arg, api.Term{Op: api.TUnit}) {
		return false
	}
	next := d.Cons[1].Arg
	return next.Op == api.TData && next.S == d.Name && table.Positive(m.table, d).Code == api.OK
}
