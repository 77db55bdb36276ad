package reduce

import (
	"slices"

	"tenet/api"
	"tenet/term"
)

// node is a term as the machine has it. Terms share their parts, so that a step costs no more than what it changes; nothing in a node is changed, but that it becomes known as a head. What steps ask for again and again is counted once.
type node struct {
	op, n int
	s     string
	u     []api.Level
	l     []*node
	own   bool // the node has its form, whatever its parts are
	form  bool // all nodes have their form
	head  bool // it is known that there is no head step
	size  int  // how many nodes there are; of a term that was not made since it is too large, nothing else is known
	free  int  // the least number above all free variables
}

// reach is the greatest number of a variable, as layer 3 has it: a greater one is none, and stays.
const reach = 1 << 31

// is reports whether a node has an Op. A node without its form, as tables may have them, is none of those that the rules are about.
func (t *node) is(op int) bool {
	return t.op == op && t.own
}

// last is the part behind all others.
func (t *node) last() *node {
	return t.l[len(t.l)-1]
}

func (t *node) isVar() bool {
	return t.op == api.TVar && 0 <= t.n && t.n <= reach
}

// term returns a node as a term of new memory.
func (t *node) term() api.Term {
	out := api.Term{Op: t.op, N: t.n, S: t.s, U: slices.Clone(t.u)}
	for i := range out.U {
		out.U[i].Vars = slices.Clone(out.U[i].Vars)
	}
	if len(t.l) > 0 {
		out.L = make([]api.Term, len(t.l))
	}
	for i, part := range t.l {
		out.L[i] = part.term()
	}
	return out
}

// maker makes nodes.
type maker struct {
	most  int        // how many nodes a term has at most that is made by filling
	units []api.Term // at least as many as a node has parts
}

// alone returns a node without its parts, units in place of them: layer 3 asks no more of it for its form and its binders.
func (m *maker) alone(t *node) api.Term {
	return api.Term{Op: t.op, N: t.n, S: t.s, U: t.u, L: m.units[:len(t.l)]}
}

func (m *maker) binds(t *node, i int) int {
	return term.Binds(m.alone(t), i)
}

// provide sees to it that there are units for a node with some parts.
func (m *maker) provide(parts int) {
	for len(m.units) < parts {
		m.units = append(m.units, api.Term{Op: api.TUnit})
	}
}

// read returns a term as a node.
func (m *maker) read(t api.Term) *node {
	m.provide(len(t.L))
	out := node{op: t.Op, n: t.N, s: t.S, u: t.U, l: make([]*node, len(t.L))}
	out.own = term.Form(m.alone(&out))
	for i := range t.L {
		out.l[i] = m.read(t.L[i])
	}
	return m.counted(out)
}

// counted returns a node of parts, with what is counted in them.
func (m *maker) counted(t node) *node {
	t.size, t.free, t.form, t.head = 1, 0, t.own, false
	if t.isVar() {
		t.free = t.n + 1
	}
	for i, part := range t.l {
		t.size += part.size
		t.free = max(t.free, part.free-m.binds(&t, i))
		t.form = t.form && part.form
	}
	return &t
}

// with returns a node with another part.
func (m *maker) with(t *node, i int, part *node) *node {
	if t.l[i] == part {
		return t
	}
	l := copied(t.l)
	l[i] = part
	return m.withParts(t, l)
}

// withParts returns a node with other parts.
func (m *maker) withParts(t *node, l []*node) *node {
	out := *t
	out.l = l
	return m.counted(out)
}

func copied(l []*node) []*node {
	out := make([]*node, len(l))
	copy(out, l)
	return out
}

// renumbered returns a variable with another number, which may be too great for the form.
func (m *maker) renumbered(t *node, n int) *node {
	out := *t
	out.n = n
	out.own = term.Form(m.alone(&out))
	return m.counted(out)
}

// rebuilt returns a term with other nodes: change tells what becomes of a node under some binders, and whether its parts are asked about, too.
func (m *maker) rebuilt(t *node, under int, change func(t *node, under int) (*node, bool)) *node {
	t, inside := change(t, under)
	if !inside {
		return t
	}
	var l []*node
	for i, old := range t.l {
		part := m.rebuilt(old, under+m.binds(t, i), change)
		if part != old && l == nil {
			l = copied(t.l)
		}
		if part != old {
			l[i] = part
		}
	}
	if l == nil {
		return t
	}
	return m.withParts(t, l)
}

// shifted is term.Shift by a number that is not below 0.
func (m *maker) shifted(t *node, by, from int) *node {
	if by == 0 {
		return t
	}
	return m.rebuilt(t, from, func(t *node, under int) (*node, bool) {
		switch {
		case t.free <= under:
			return t, false
		case t.isVar() && t.n >= under:
			return m.renumbered(t, t.n+by), true
		}
		return t, true
	})
}
