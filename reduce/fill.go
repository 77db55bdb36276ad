package reduce

import "tenet/api"

// filling says what is put in for the first free variables of a term, or for its stand-ins.
type filling struct {
	by       []*node
	standIns bool
	binds    []int // for stand-ins: how many of the binders around one of them are also those of what is put in
}

// standIn is the name of the constants that stand for parts of terms in what package table makes. So it need not copy these parts at each step, however large they are.
const standIn = "_.stand.in_of_reduce._"

// standFor returns the stand-in with a number.
func standFor(i int) api.Term {
	return api.Term{Op: api.TConst, S: standIn, U: []api.Level{{Const: i}}}
}

// filled is term.Fill: the variable i of a term becomes by[i].
func (m *maker) filled(t *node, by ...*node) *node {
	return m.put(t, filling{by: by}, m.most)
}

// put returns a filled term. If it would have more than some nodes, it is not made, and there is no more of it than its size.
func (m *maker) put(t *node, f filling, most int) *node {
	size := t.size + m.growth(t, f, 0)
	if size > most {
		return &node{size: size}
	}
	return m.rebuilt(t, 0, func(t *node, under int) (*node, bool) {
		if f.skips(t, under) {
			return t, false
		}
		if i := f.slot(t, under); i >= 0 {
			own := f.bindsOf(i)
			return m.shifted(f.by[i], under-own, own), false
		}
		if !f.standIns && t.isVar() && t.n >= under {
			return m.renumbered(t, t.n-len(f.by)), true
		}
		return t, true
	})
}

// growth returns how many nodes a term has more when it is filled.
func (m *maker) growth(t *node, f filling, under int) int {
	if f.skips(t, under) {
		return 0
	}
	if i := f.slot(t, under); i >= 0 {
		return f.by[i].size - t.size
	}
	sum := 0
	for i, part := range t.l {
		sum += m.growth(part, f, under+m.binds(t, i))
	}
	return sum
}

// skips reports whether it is known that filling changes nothing in a term.
func (f filling) skips(t *node, under int) bool {
	return !f.standIns && t.free <= under
}

// slot returns the place in f.by of what is put in for a node, or -1 if that is nothing.
func (f filling) slot(t *node, under int) int {
	i := -1
	switch {
	case f.standIns && t.op == api.TConst && t.s == standIn && len(t.u) == 1:
		i = t.u[0].Const
	case !f.standIns && t.op == api.TVar:
		i = t.n - under
	}
	if i < 0 || i >= len(f.by) {
		return -1
	}
	return i
}

func (f filling) bindsOf(i int) int {
	if i >= len(f.binds) {
		return 0
	}
	return f.binds[i]
}
