package reduce

import (
	"tenet/api"
	"tenet/term"
)

// machine does head steps of a term. It looks at one part of it, the focus, and comes from one step to the next without going back to the root.
type machine struct {
	maker
	table  api.Table
	rules  []rules
	bodies map[string]*node // of constants, by their texts
	around []frame          // the nodes around the focus, from the root
	focus  *node
	rest   int // how many nodes the term has beside the focus
	steps  int // how many steps were done
}

// frame is a node, and the place of the part into which the machine has gone. This part may have become another one since.
type frame struct {
	t  *node
	at int
}

// start returns a machine that makes terms of at most some nodes; nil if the term is none of those that have steps.
func start(t api.Table, s api.Term, most int) *machine {
	if nodes, _ := term.Size(s); nodes > api.MaxTerm {
		return nil
	}
	m := &machine{maker: maker{most: most}, table: t, rules: allRules(), bodies: map[string]*node{}}
	m.begin(m.read(s))
	if !m.focus.form {
		return nil
	}
	return m
}

// begin makes a term the one of which steps are done.
func (m *machine) begin(t *node) {
	m.around, m.focus, m.rest = nil, t, 0
}

// run does head steps until there is none, or the next one would unfold a definition though that is not wanted; false if the fuel for all steps of the machine does not suffice.
func (m *machine) run(fuel int, unfold bool) bool {
	for {
		v := m.find()
		if v.rule == 0 || v.rule == api.RUnfold && !unfold {
			return true
		}
		if m.steps >= fuel || !m.take(v) {
			return false
		}
	}
}

// find goes to the part at which the next head step is done, and returns what is done there; the rule 0 if the term is a head.
func (m *machine) find() verdict {
	for {
		v := m.look(m.focus)
		if v.rule != 0 {
			return v
		}
		if at := m.unknown(v.examined); at >= 0 {
			m.enter(at)
			continue
		}
		m.focus.head = true
		if len(m.around) == 0 {
			return verdict{}
		}
		m.leave()
	}
}

// unknown returns the first one of the places at which a part of the focus is not known as a head; -1 if there is none.
func (m *machine) unknown(places []int) int {
	for _, at := range places {
		if !m.focus.l[at].head {
			return at
		}
	}
	return -1
}

// take does the step that was found; false if the term would be too large.
func (m *machine) take(v verdict) bool {
	made := v.result()
	if m.rest+made.size > m.most {
		return false
	}
	defer m.count()
	m.focus = made
	return true
}

func (m *machine) count() {
	m.steps++
}

// enter goes into a part of the focus.
func (m *machine) enter(at int) {
	part := m.focus.l[at]
	m.around = append(m.around, frame{m.focus, at})
	m.rest += m.focus.size - part.size
	m.focus = part
}

// leave goes back to the node around the focus.
func (m *machine) leave() {
	last := len(m.around) - 1
	f := m.around[last]
	m.around = m.around[:last]
	out := m.with(f.t, f.at, m.focus)
	m.rest += m.focus.size - out.size
	m.focus = out
}

// whole goes back to the root and returns it.
func (m *machine) whole() *node {
	for len(m.around) > 0 {
		m.leave()
	}
	return m.focus
}

// path returns the path of the focus.
func (m *machine) path() []int {
	path := make([]int, len(m.around))
	for i, f := range m.around {
		path[i] = f.at
	}
	return path
}
