package table

import (
	"tenet/api"
	"tenet/term"
)

// check returns the first error of a declaration behind those of the scope.
func (s scope) check(d api.Decl) api.Errno {
	if !hasForm(d) {
		return api.ErrForm
	}
	if s.has(d.Name) || hasTwins(d.Cons) {
		return api.ErrDouble
	}
	if err := s.namesOf(d); err != nil {
		return codeOf(err)
	}
	return codeOf(positive(d))
}

// namesOf returns the fault of the first node of a declaration whose name does not fit.
func (s scope) namesOf(d api.Decl) error {
	for _, t := range []api.Term{d.Type, d.Body, d.Param} {
		if err := s.names(t); err != nil {
			return err
		}
	}
	in := s.within(d)
	for _, c := range d.Cons {
		if err := in.names(c.Arg); err != nil {
			return err
		}
	}
	return nil
}

// hasForm reports whether a declaration has its form, whatever its terms name.
func hasForm(d api.Decl) bool {
	return isName(d.Name) && 0 <= d.Levels && d.Levels <= api.MaxParams && hasFields(d)
}

// hasFields reports whether the fields that the Kind uses have their form, and the other ones are zero. Each Kind takes its fields away, so that only the other ones are left.
func hasFields(d api.Decl) bool {
	fits := true
	switch d.Kind {
	case api.KDef, api.KOpaque:
		fits = isTerm(d.Body, 0, d.Levels)
		d.Body = api.Term{}
		fallthrough
	case api.KAssume:
		fits = fits && isTerm(d.Type, 0, d.Levels)
		d.Type = api.Term{}
	case api.KData:
		fits = hasFamily(d)
		d.Param, d.Over, d.Sort, d.Cons = api.Term{}, api.Level{}, api.Level{}, nil
	default:
		return false
	}
	return fits && hasNothing(d)
}

// hasNothing reports whether all fields are zero that some Kind does not use.
func hasNothing(d api.Decl) bool {
	return isZero(d.Type) && isZero(d.Body) && isZero(d.Param) && isZeroLevel(d.Over) && isZeroLevel(d.Sort) && len(d.Cons) == 0
}

func hasFamily(d api.Decl) bool {
	if !isTerm(d.Param, 0, d.Levels) || !isLevel(d.Over, d.Levels) || !isLevel(d.Sort, d.Levels) || len(d.Cons) > api.MaxCases {
		return false
	}
	for _, c := range d.Cons {
		if !isName(c.Name) || !isTerm(c.Arg, 1, d.Levels) {
			return false
		}
	}
	return true
}

// isTerm reports whether a term is valid and complete, with free variables below free and level variables below levels.
func isTerm(t api.Term, free, levels int) bool {
	if !term.Valid(t) || !isComplete(&t) || term.Free(t) > free {
		return false
	}
	vars := term.Levels(t)
	return len(vars) == 0 || vars[len(vars)-1] < levels
}

// isComplete reports whether nothing in a term stands for something else: there is no THole and no TProof.
func isComplete(t *api.Term) bool {
	if t.Op == api.THole || t.Op == api.TProof {
		return false
	}
	for i := range t.L {
		if !isComplete(&t.L[i]) {
			return false
		}
	}
	return true
}

// isName asks for the form of a constant of this name, since layer 3 says what a name is.
func isName(s string) bool {
	return term.Form(api.Term{Op: api.TConst, S: s})
}

// isLevel asks for the form of a universe of this level: so the level is canonical.
func isLevel(a api.Level, levels int) bool {
	return isTerm(api.Term{Op: api.TType, U: []api.Level{a}}, 0, levels)
}

func isZero(t api.Term) bool {
	return t.Op == 0 && t.N == 0 && t.S == "" && len(t.U) == 0 && len(t.L) == 0
}

func isZeroLevel(a api.Level) bool {
	return a.Const == 0 && len(a.Vars) == 0
}

// hasTwins reports whether two constructors have one name.
func hasTwins(cons []api.Con) bool {
	seen := map[string]bool{}
	for _, c := range cons {
		if seen[c.Name] {
			return true
		}
		seen[c.Name] = true
	}
	return false
}
