package reduce

import (
	"strconv"

	"tenet/api"
	"tenet/term"
)

// filling says what is put in for the first free variables of a term, or for its stand-ins: constants that stand for parts of terms in what package table makes. So it need not copy these parts at each step, however large they are.
type filling struct {
	by      []*node
	standIn string // the name of the stand-ins; empty if variables are filled
	binds   []int  // for stand-ins: how many of the binders around one of them are also those of what is put in
}

// standFor returns the stand-in with a name and a number.
func standFor(name string, i int) api.Term {
	return api.Term{Op: api.TConst, S: name, U: []api.Level{{Const: i}}}
}

// unusedName returns a name that none of some terms has. Stand-ins need such a one: tables and terms may have any names, so none can be kept for them.
func unusedName(terms ...api.Term) string {
	used := map[string]bool{}
	for _, t := range terms {
		for _, name := range term.Names(t) {
			used[name] = true
		}
	}
	for i := 0; ; i++ {
		name := "_" + strconv.Itoa(i)
		if !used[name] {
			return name
		}
	}
}

// filled is term.Fill: the variable i of a term becomes by[i].
func (m *maker) filled(t *node, by ...*node) *node {
	return m.put(t, filling{by: by}, m.most)
}

// put returns a filled term. If it would have more than some nodes, it is not made, and there is no more of it than its size.
func (m *maker) put(t *node, f filling, most int) *node {
	size := t.size + m.growth(t, f, 0)
	if size > most {
		return &node{size: size}
	}
	return m.rebuilt(t, 0, func(t *node, under int) (*node, bool) {
		if f.skips(t, under) {
			return t, false
		}
		if i := f.slot(t, under); i >= 0 {
			own := f.bindsOf(i)
			return m.shifted(f.by[i], under-own, own), false
		}
		if f.ofVariables() && t.isVar() && t.n >= under {
			return m.renumbered(t, t.n-len(f.by)), true
		}
		return t, true
	})
}

// growth returns how many nodes a term has more when it is filled.
func (m *maker) growth(t *node, f filling, under int) int {
	if f.skips(t, under) {
		return 0
	}
	if i := f.slot(t, under); i >= 0 {
		return f.by[i].size - t.size
	}
	sum := 0
	for i, part := range t.l {
		sum += m.growth(part, f, under+m.binds(t, i))
	}
	return sum
}

// skips reports whether it is known that filling changes nothing in a term.
func (f filling) skips(t *node, under int) bool {
	return f.ofVariables() && t.free <= under
}

func (f filling) ofVariables() bool {
	return f.standIn == ""
}

// slot returns the place in f.by of what is put in for a node, or -1 if that is nothing.
func (f filling) slot(t *node, under int) int {
	i := -1
	switch {
	case f.ofVariables() && t.op == api.TVar:
		i = t.n - under
	case !f.ofVariables() && t.op == api.TConst && t.s == f.standIn:
		i = t.u[0].Const
	}
	if i < 0 || i >= len(f.by) {
		return -1
	}
	return i
}

func (f filling) bindsOf(i int) int {
	if i >= len(f.binds) {
		return 0
	}
	return f.binds[i]
}
