package table

import (
	"slices"

	"tenet/api"
	"tenet/term"
)

// farthest is the greatest number of a variable. A greater one is none and stays, also where a step has made it so.
const farthest = 1 << 31

// maker makes a result node by node, and nothing more when it has more than MaxTerm nodes: such a result may be far too large to be made. For the same reason nothing is made that does not become a part of the result.
type maker struct {
	nodes int
}

// lazy is a term that is made where it is wanted, with steps that are taken with it then.
type lazy func(then *steps) api.Term

// steps are shifts and fillings of a term, the first one first. Each variable takes them one after the other, as the chapter has them: all at once would be another result where a number becomes greater than farthest on the way.
type steps struct {
	values []lazy // those of the first variables
	by     int    // what is added to the other ones
	under  int    // how many binders more there are around the term for this step than for the one before
	next   *steps
}

func shifted(by int, then *steps) *steps {
	return &steps{by: by, next: then}
}

func filled(then *steps, values ...lazy) *steps {
	return &steps{values: values, by: -len(values), next: then}
}

// below returns the steps for a part under n binders of the term.
func (s *steps) below(n int) *steps {
	if s == nil {
		return nil
	}
	part := *s
	part.under += n
	return &part
}

// take returns what a variable becomes under some binders of the term: a number, or a value and the steps that are left for it.
func (s *steps) take(n, under int) (int, lazy, *steps) {
	for ; s != nil; s = s.next {
		under += s.under
		if n < under || n > farthest {
			continue
		}
		if v := n - under; v < len(s.values) {
			return 0, s.values[v], shifted(under, s.next.below(under))
		}
		n += s.by
	}
	return n, nil, nil
}

func (m *maker) isFull() bool {
	return m.nodes > api.MaxTerm
}

// result returns what was made, if it is not too large.
func (m *maker) result(t api.Term) (api.Term, api.Errno) {
	if m.isFull() {
		return api.Term{}, api.ErrLimit
	}
	return t, api.OK
}

// node makes a node of parts that are made already.
func (m *maker) node(t api.Term, parts ...api.Term) api.Term {
	m.nodes++
	t.U, t.L = copied(t.U), parts
	return t
}

// put makes a copy of a part of a term that lies under some binders of it. What its variables become is as in steps.take.
func (m *maker) put(t api.Term, under int, take func(n, under int) (int, lazy, *steps)) api.Term {
	if m.isFull() {
		return api.Term{}
	}
	if t.Op == api.TVar {
		n, value, left := take(t.N, under)
		if value != nil {
			return value(left)
		}
		t.N = n
	}
	parts := make([]api.Term, len(t.L))
	for i := range t.L {
		parts[i] = m.put(t.L[i], under+term.Binds(t, i), take)
	}
	return m.node(t, parts...)
}

// given is a term that there is already.
func (m *maker) given(t api.Term) lazy {
	return func(then *steps) api.Term { return m.put(t, 0, then.take) }
}

// joined is a node of lazy parts, which binds nothing.
func (m *maker) joined(t api.Term, parts ...lazy) lazy {
	return func(then *steps) api.Term {
		if m.isFull() {
			return api.Term{}
		}
		var made []api.Term
		for _, part := range parts {
			made = append(made, part(then))
		}
		return m.node(t, made...)
	}
}

func copied(u []api.Level) []api.Level {
	u = slices.Clone(u)
	for i := range u {
		u[i].Vars = slices.Clone(u[i].Vars)
	}
	return u
}
