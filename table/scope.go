package table

import (
	"tenet/api"
	"tenet/term"
)

// scope is what terms may name: declarations by their names and, within the Args of a family, this family.
type scope struct {
	decls map[string]api.Decl
	own   *api.Decl
}

func scopeOf(t api.Table) scope {
	s := scope{}
	for _, d := range t.Decls {
		s.add(d)
	}
	return s
}

// add declares one more name; of several declarations with one name the first one stays.
func (s *scope) add(d api.Decl) {
	if s.decls == nil {
		s.decls = map[string]api.Decl{}
	}
	if !s.has(d.Name) {
		s.decls[d.Name] = d
	}
}

func (s scope) has(name string) bool {
	_, is := s.decls[name]
	return is
}

// within returns the scope of the Args of a family.
func (s scope) within(d api.Decl) scope {
	s.own = &d
	return s
}

// fits returns the fault of a term: that it has not its form, or the first one of its nodes.
func (s scope) fits(t api.Term) error {
	if !term.Form(t) {
		return faultAt(api.ErrForm, nil)
	}
	return s.names(t)
}

// names returns the fault of the first node of a term whose name does not fit.
func (s scope) names(t api.Term) error {
	var path []int
	var down func(t *api.Term) error
	down = func(t *api.Term) error {
		if code := s.node(t); code != api.OK {
			return faultAt(code, path)
		}
		for i := range t.L {
			path = append(path, i)
			if err := down(&t.L[i]); err != nil {
				return err
			}
			path = path[:len(path)-1]
		}
		return nil
	}
	return down(&t)
}

// node returns the error of a node, whatever its parts are.
func (s scope) node(t *api.Term) api.Errno {
	if !isNamed(t.Op) {
		return api.OK
	}
	d := s.decls[t.S]
	if s.own != nil && t.Op == api.TData && t.S == s.own.Name {
		d = *s.own
	}
	if !mayName(t.Op, d.Kind) {
		return api.ErrLater
	}
	if len(t.U) != d.Levels || !agrees(t, d) {
		return api.ErrArity
	}
	return api.OK
}

// agrees reports whether the number of a constructor, or how many methods there are, goes along with the family.
func agrees(t *api.Term, d api.Decl) bool {
	switch t.Op {
	case api.TCon:
		return t.N < len(d.Cons)
	case api.TElim:
		return methods(t) == len(d.Cons)
	}
	return true
}

// methods returns how many parts of a TElim are methods: all but the motive, the parameter and the element.
func methods(t *api.Term) int {
	return len(t.L) - 3
}

func isNamed(op int) bool {
	return op == api.TConst || op == api.TData || op == api.TCon || op == api.TElim
}

// mayName reports whether a node with this Op, which has a name, may name declarations of this Kind.
func mayName(op, kind int) bool {
	switch kind {
	case api.KDef, api.KOpaque, api.KAssume:
		return op == api.TConst
	case api.KData:
		return op != api.TConst
	}
	return false
}
