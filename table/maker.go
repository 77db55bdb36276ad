package table

import (
	"slices"

	"tenet/api"
	"tenet/term"
)

// farthest is the greatest number of a variable.
const farthest = 1 << 31

// maker makes a result node by node, and nothing more when it has more than MaxTerm nodes: such a result may be far too large to be made. For the same reason nothing is made that does not become a part of the result.
type maker struct {
	nodes int
}

// lazy is a term that is made where it is wanted. The depth of a place is how many binders of the result there are around it.
type lazy func(depth int) api.Term

// binding is the value of the variable that is bound last, and those of the variables outside of it: count values in all.
type binding struct {
	value lazy
	outer *binding
	count int
}

func bind(outer *binding, value lazy) *binding {
	return &binding{value, outer, outer.size() + 1}
}

func (b *binding) size() int {
	if b == nil {
		return 0
	}
	return b.count
}

// of returns the value of the variable v, which has one.
func (b *binding) of(v int) lazy {
	for range v {
		b = b.outer
	}
	return b.value
}

func (m *maker) isFull() bool {
	return m.nodes > api.MaxTerm
}

// result returns what was made, if it is not too large.
func (m *maker) result(t api.Term) (api.Term, api.Errno) {
	if m.isFull() {
		return api.Term{}, api.ErrLimit
	}
	return t, api.OK
}

// node makes a node of parts that are made already.
func (m *maker) node(t api.Term, parts ...api.Term) api.Term {
	m.nodes++
	t.U, t.L = copied(t.U), parts
	return t
}

// put makes a copy of a term at a depth, with values for the variables that are bound around it last. Of a part of a term under says how many variables the term binds around it.
func (m *maker) put(t api.Term, vals *binding, depth, under int) api.Term {
	if m.isFull() {
		return api.Term{}
	}
	if t.Op == api.TVar && under <= t.N && t.N <= farthest {
		if v := t.N - under; v < vals.size() {
			return vals.of(v)(depth + under)
		}
		t.N += depth - vals.size()
	}
	parts := make([]api.Term, len(t.L))
	for i := range t.L {
		parts[i] = m.put(t.L[i], vals, depth, under+term.Binds(t, i))
	}
	return m.node(t, parts...)
}

// given is a term that stands outside of the result.
func (m *maker) given(t api.Term) lazy {
	return func(depth int) api.Term { return m.put(t, nil, depth, 0) }
}

// variable is the variable of the binder at a depth.
func (m *maker) variable(at int) lazy {
	return func(depth int) api.Term { return m.node(api.Term{Op: api.TVar, N: depth - 1 - at}) }
}

// joined is a node of lazy parts.
func (m *maker) joined(t api.Term, parts ...lazy) lazy {
	return func(depth int) api.Term {
		if m.isFull() {
			return api.Term{}
		}
		var made []api.Term
		for _, part := range parts {
			made = append(made, part(depth))
		}
		return m.node(t, made...)
	}
}

func copied(u []api.Level) []api.Level {
	u = slices.Clone(u)
	for i := range u {
		u[i].Vars = slices.Clone(u[i].Vars)
	}
	return u
}
