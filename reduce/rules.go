package reduce

import (
	"tenet/api"
	"tenet/table"
	"tenet/term"
)

// verdict is what the rules say of a node.
type verdict struct {
	rule     int          // the rule that fits, or 0
	result   func() *node // what the node becomes by it
	examined []int        // if none fits: the places of the parts that are examined, in order
}

// fits is the verdict that a rule fits.
func fits(rule int, result func() *node) verdict {
	return verdict{rule: rule, result: result}
}

// examine is the verdict that parts are examined.
func examine(places ...int) verdict {
	return verdict{examined: places}
}

// rules are the rules for an Op; a function that is not there says that nothing fits.
type rules struct {
	term  look // for terms with the Op
	equal look // for TEqs of a type with the Op
	types look // for TEqs of universes, and two types with the Op that agree
	cast  look // for TCasts between two types with the Op that agree
}

// look says what the rules say of a node.
type look func(m *machine, t *node) verdict

// allRules returns the rules by Op.
func allRules() []rules {
	return []rules{
		api.TConst: {term: (*machine).unfold},
		api.TType:  {equal: (*machine).equalTypes, types: (*machine).typesHold, cast: (*machine).castNothing},
		api.TProp:  {equal: (*machine).equalProps, types: (*machine).typesHold, cast: (*machine).castNothing},
		api.TPi:    {equal: (*machine).equalFunctions, types: (*machine).typesPi, cast: (*machine).castFunction},
		api.TApp:   {term: (*machine).apply},
		api.TSigma: {equal: (*machine).equalPairs, types: (*machine).typesSigma, cast: (*machine).castPair},
		api.TFst:   {term: (*machine).project},
		api.TSnd:   {term: (*machine).project},
		api.TUnit:  {equal: (*machine).equalUnits, types: (*machine).typesHold, cast: (*machine).castNothing},
		api.TEq:    {term: (*machine).equate},
		api.TCast:  {term: (*machine).convert},
		api.TQuo:   {equal: (*machine).equalClasses, types: (*machine).typesQuo, cast: (*machine).castClass},
		api.TOut:   {term: (*machine).takeOut},
		api.TData:  {equal: (*machine).equalCons, types: (*machine).typesData, cast: (*machine).castCon},
		api.TElim:  {term: (*machine).eliminate},
		api.TProof: {},
	}
}

// rulesOf returns the rules for the Op of a node; none for a node that has not its form.
func (m *machine) rulesOf(t *node) rules {
	if !t.own {
		return rules{}
	}
	return m.rules[t.op]
}

// look says what the rules say of a node.
func (m *machine) look(t *node) verdict {
	f := m.rulesOf(t).term
	if t.head || f == nil {
		return verdict{}
	}
	return f(m, t)
}

func (m *machine) apply(t *node) verdict {
	f := t.l[0]
	if !f.is(api.TLam) {
		return examine(0)
	}
	return fits(api.RBeta, func() *node { return m.filled(f.l[1], t.l[1]) })
}

func (m *machine) project(t *node) verdict {
	p := t.l[0]
	if !p.is(api.TPair) {
		return examine(0)
	}
	first, second := p.l[2], p.l[3]
	if t.op == api.TFst {
		return fits(api.RProj, func() *node { return first })
	}
	return fits(api.RProj, func() *node { return second })
}

func (m *machine) unfold(t *node) verdict {
	body := m.body(t)
	if body == nil {
		return verdict{}
	}
	return fits(api.RUnfold, func() *node { return body })
}

// body returns the body of a constant, nil if there is none. One that is unfolded again and again is read once.
func (m *machine) body(t *node) *node {
	name, _ := term.Format(m.alone(t))
	if body := m.bodies[name]; body != nil {
		return body
	}
	body, is, _ := table.BodyOf(m.table, t.s, t.u)
	if !is {
		return nil
	}
	out := m.read(body)
	m.bodies[name] = out
	return out
}

func (m *machine) eliminate(t *node) verdict {
	c, place := t.last(), len(t.l)-1
	switch {
	case !m.declared(t):
		return verdict{}
	case !isCon(c, t.s):
		return examine(place)
	case !m.declared(c):
		return verdict{}
	}
	values, ok := m.values(t, c)
	if !ok {
		return verdict{}
	}
	return fits(api.RCase, func() *node { return m.filled(t.l[1+c.n], values, c.l[1], c.l[0]) })
}

func (m *machine) takeOut(t *node) verdict {
	c := t.last()
	if !c.is(api.TClass) {
		return examine(4)
	}
	return fits(api.RClass, func() *node { return m.filled(t.l[2], c.l[1]) })
}

func isFormer(op int) bool {
	switch op {
	case api.TPi, api.TSigma, api.TUnit, api.TType, api.TProp, api.TData, api.TQuo, api.TTrue, api.TFalse:
		return true
	}
	return false
}

// isFormer reports whether a node is a former that has its form.
func (t *node) isFormer() bool {
	return t.own && isFormer(t.op)
}

// isCon reports whether a node is a constructor of a family.
func isCon(t *node, family string) bool {
	return t.is(api.TCon) && t.s == family
}
