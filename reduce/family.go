package reduce

import (
	"tenet/api"
	"tenet/level"
	"tenet/table"
	"tenet/term"
)

// decl returns the family that a node names, nil if the table has none with as many levels.
func (m *machine) decl(t *node) *api.Decl {
	i := table.Find(m.table, t.s)
	if i < 0 {
		return nil
	}
	d := &m.table.Decls[i]
	if d.Kind != api.KData || d.Levels != len(t.u) {
		return nil
	}
	return d
}

// declared reports whether the table has what a node names: a family, with as many levels, and with the constructor if the node is one.
func (m *machine) declared(t *node) bool {
	d := m.decl(t)
	return d != nil && (t.op != api.TCon || t.n < len(d.Cons))
}

// declaredArg returns the Arg of a constructor that is declared.
func (m *machine) declaredArg(c *node) api.Term {
	return m.decl(c).Cons[c.n].Arg
}

// values returns what the hypotheses of a constructor's method are filled with; false if the table makes none, or if they are too many nodes.
func (m *machine) values(t, c *node) (*node, bool) {
	if !t.form {
		return nil, false
	}
	// Values are filled into the motive, so nothing can stand for it.
	motive := t.l[0].term()
	e := api.Term{Op: t.op, N: t.n, S: t.s, U: t.u}
	f := filling{by: copied(t.l), standIn: unusedName(motive, m.declaredArg(c))}
	for i := range t.l {
		e.L = append(e.L, standFor(f.standIn, i))
		f.binds = append(f.binds, m.binds(t, i))
	}
	e.L[0] = motive
	// In place of the eliminator's own parameter and element, which do not matter, there are those of the constructor.
	last := len(t.l) - 1
	copy(f.by[last-1:], c.l)
	v, code := table.Values(m.table, e, c.n, e.L[last-1], e.L[last])
	if code != api.OK {
		return nil, false
	}
	out := m.put(m.read(v), f, api.MaxTerm)
	return out, out.size <= api.MaxTerm
}

// argType is the type of the argument of a constructor, in which stand-ins with a name are the parameter.
type argType struct {
	typ     *node
	standIn string
}

// arg returns the type of the argument of a constructor that is declared, in a family with its levels.
func (m *machine) arg(data, c *node) (argType, bool) {
	name := unusedName(m.declaredArg(c))
	a, code := table.Arg(m.table, data.s, data.u, c.n, standFor(name, 0))
	if code != api.OK {
		return argType{}, false
	}
	return argType{m.read(a), name}, true
}

// at returns the type of an argument for a parameter.
func (m *machine) at(arg argType, parameter *node) *node {
	return m.put(arg.typ, filling{by: []*node{parameter}, standIn: arg.standIn}, m.most)
}

// family is what the table says of a family with levels.
type family struct {
	over, sort, up api.Level // up is the level above sort
	param          *node
}

// family returns what the table says of a family; false if one of the levels is above a limit.
func (m *machine) family(data *node) (family, bool) {
	over, c1 := table.Over(m.table, data.s, data.u)
	sort, c2 := table.Sort(m.table, data.s, data.u)
	up, c3 := level.Suc(sort)
	param, c4 := table.Param(m.table, data.s, data.u)
	for _, code := range []api.Errno{c1, c2, c3, c4} {
		if code != api.OK {
			return family{}, false
		}
	}
	return family{over, sort, up, m.read(param)}, true
}

// isNatural reports whether a term is a constructor of a family with one natural number's constructors. Where all Args are argument types, a TData of the family itself is recursive.
func (m *machine) isNatural(t *node) bool {
	if !t.is(api.TCon) || !m.declared(t) {
		return false
	}
	d := m.table.Decls[table.Find(m.table, t.s)]
	if len(d.Cons) != 2 || !term.Same(d.Cons[0].Arg, api.Term{Op: api.TUnit}) {
		return false
	}
	next := d.Cons[1].Arg
	return next.Op == api.TData && next.S == d.Name && table.Positive(m.table, d).Code == api.OK
}
