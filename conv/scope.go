package conv

import (
	"tenet/api"
	"tenet/term"
)

// scope is a context, from the inside. It may be longer than contexts of arguments are.
type scope struct {
	of    lazy // the type of the variable 0
	depth int  // how many variables there are
	outer *scope
}

func scopeOf(ctx []api.Bind) *scope {
	s := &scope{}
	for _, b := range ctx {
		s = s.with(s.given(b.Type))
	}
	return s
}

// with returns the context with one variable more.
func (s *scope) with(of lazy) *scope {
	return &scope{of, s.depth + 1, s}
}

// typeOf returns the type of a variable, nil if there is none.
func (s *scope) typeOf(n int) lazy {
	if n < 0 || n >= s.depth {
		return nil
	}
	for range n {
		s = s.outer
	}
	return s.of
}

// delay returns a term of the context with what its first variables stand for, the variable 0 last.
func (s *scope) delay(t api.Term, by ...delayed) delayed {
	return delayed{depth: s.depth}.inner(t, by...)
}

// given returns a type that there is already.
func (s *scope) given(t api.Term, by ...delayed) lazy {
	return s.delay(t, by...).lazily
}

// lazy is a type that is made when it is asked for, and only once: so a comparison takes no step that it can do without.
type lazy func() delayed

func later(find func() delayed) lazy {
	var found *delayed
	return func() delayed {
		if found == nil {
			t := find()
			found = &t
		}
		return *found
	}
}

// delayed is a term whose first variables stand for others, which are filled in only when the whole is wanted: types grow fast where each one is filled into the next one, and it is their heads that comparisons ask for. The zero value is none.
type delayed struct {
	term  api.Term
	by    *filling
	depth int // how many variables the context has to which the other ones belong; longer contexts have these, too
}

// filling is what the first variables of a term stand for.
type filling struct {
	last  delayed // what the variable 0 stands for
	outer *filling
	size  int // how many variables there are
}

// filled returns how many variables stand for something.
func (t *delayed) filled() int {
	if t.by == nil {
		return 0
	}
	return t.by.size
}

// stands returns what a variable stands for, nil if it is one of the context.
func (t *delayed) stands(n int) *delayed {
	if n < 0 || n >= t.filled() {
		return nil
	}
	by := t.by
	for range n {
		by = by.outer
	}
	return &by.last
}

func (t delayed) lazily() delayed {
	return t
}

// inner returns another term in which the variables stand for the same, but that there are more of them, the last one being the variable 0. A variable that stands for a term is this term.
func (t delayed) inner(s api.Term, more ...delayed) delayed {
	t.term = s
	for _, m := range more {
		t.by = &filling{m, t.by, t.filled() + 1}
	}
	if s.Op == api.TVar {
		if w := t.stands(s.N); w != nil {
			return *w
		}
	}
	return t
}

// part returns a part of a type, with what the variables stand for that are bound there; none if there is no type.
func (t delayed) part(i int, bound ...delayed) delayed {
	if t.term.Op == 0 {
		return delayed{}
	}
	return t.inner(t.term.L[i], bound...)
}

// isMade reports whether nothing is delayed in a context with some variables.
func (t delayed) isMade(depth int) bool {
	return t.by == nil && t.depth == depth
}

// made returns the whole term in a context with some variables. If it has too many nodes, the comparison ends: nothing could be done with it.
func (c *comparer) made(t delayed, depth, most int) api.Term {
	if t.isMade(depth) {
		return t.term
	}
	m := maker{counter: &c.counter, most: most}
	out, _ := m.put(&t.term, &t, 0, depth)
	return out
}

// maker makes terms of what is delayed.
type maker struct {
	*counter
	nodes, most int
}

// put returns a part of a term under some binders of it, and whether it is another one now; depth is that of the context around the whole term. Parts that stay as they are, are shared.
func (m *maker) put(t *api.Term, of *delayed, under, depth int) (api.Term, bool) {
	isFree := t.Op == api.TVar && t.N >= under
	if isFree {
		if w := of.stands(t.N - under); w != nil {
			out, _ := m.put(&w.term, w, 0, depth+under)
			return out, true
		}
	}
	m.nodes++
	if m.nodes > m.most {
		m.giveUp()
	}
	if isFree {
		n := t.N - of.filled() + depth - of.depth
		return variable(n), n != t.N
	}
	var l []api.Term
	for i := range t.L {
		part, changed := m.put(&t.L[i], of, under+term.Binds(*t, i), depth)
		if changed && l == nil {
			l = append(l, t.L...)
		}
		if changed {
			l[i] = part
		}
	}
	if l == nil {
		return *t, false
	}
	out := *t
	out.L = l
	return out, true
}

func variable(n int) api.Term {
	return api.Term{Op: api.TVar, N: n}
}
