package table

import (
	"tenet/api"
	"tenet/term"
)

// What a part of an Arg is, for the family whose Arg it is.
const (
	plain     = iota // the family does not occur
	recursive        // the family at a plain parameter
	function         // a function type from a plain domain
	pair             // a pair type
	tied             // as pair, but for the second type, which has the variable for an element of a first one that is not plain
	wrong            // the family occurs where it may not
)

// shape is what a part of an Arg is, and the shapes of its own parts unless it is plain.
type shape struct {
	kind  int
	bound bool // the last one of the variables that are bound for the part occurs in it
	parts []shape
}

// shaper finds shapes, those of all nodes in one walk, so that an Arg may be large.
type shaper struct {
	family string
	levels int
	occurs []bool // for each variable that is bound around, from the outside, whether it has occurred
}

func shapeOf(d api.Decl, arg api.Term) shape {
	f := shaper{family: d.Name, levels: d.Levels}
	return f.shape(&arg)
}

func (f *shaper) shape(t *api.Term) shape {
	if place := len(f.occurs) - 1 - t.N; t.Op == api.TVar && t.N >= 0 && place >= 0 {
		f.occurs[place] = true
	}
	isPlain := !f.isFamily(t)
	parts := make([]shape, len(t.L))
	for i := range t.L {
		parts[i] = f.part(t, i)
		isPlain = isPlain && parts[i].kind == plain
	}
	if isPlain {
		return shape{}
	}
	return shape{kind: f.kind(t, parts), parts: parts}
}

// isFamily reports whether a node is an occurrence of the family. A TConst is none, whatever its name is: it names a definition or assumption.
func (f *shaper) isFamily(t *api.Term) bool {
	return isNamed(t.Op) && t.Op != api.TConst && t.S == f.family
}

// part returns the shape of a part of a node.
func (f *shaper) part(t *api.Term, i int) shape {
	around := len(f.occurs)
	f.occurs = append(f.occurs, make([]bool, term.Binds(*t, i))...)
	s := f.shape(&t.L[i])
	last := len(f.occurs) - 1
	s.bound = last >= around && f.occurs[last]
	f.occurs = f.occurs[:around]
	return s
}

// kind returns what a node is in which the family occurs.
func (f *shaper) kind(t *api.Term, parts []shape) int {
	switch {
	case t.Op == api.TData && len(parts) == 1 && f.isFamily(t):
		if f.ownLevels(t.U) && parts[0].kind == plain {
			return recursive
		}
	case t.Op == api.TPi && len(parts) == 2:
		if t.N&api.Second == 0 && parts[0].kind == plain {
			return function
		}
	case t.Op == api.TSigma && len(parts) == 2:
		return kindOfPair(t.N, parts[0], parts[1])
	}
	return wrong
}

func kindOfPair(mark int, first, second shape) int {
	switch {
	case mark&api.First != 0 && first.kind != plain, mark&api.Second != 0 && second.kind != plain:
		return wrong
	case first.kind != plain && second.bound:
		return tied
	}
	return pair
}

// ownLevels reports whether levels are the level variables of the family in order.
func (f *shaper) ownLevels(u []api.Level) bool {
	if len(u) != f.levels {
		return false
	}
	for i, a := range u {
		if a.Const != 0 || len(a.Vars) != 1 || a.Vars[0] != (api.LVar{V: i}) {
			return false
		}
	}
	return true
}

// positive returns the fault of the first Arg of a family that is no argument type.
func positive(d api.Decl) error {
	if d.Kind != api.KData {
		return nil
	}
	for k, c := range d.Cons {
		if err := shapeOf(d, c.Arg).reason([]int{k}); err != nil {
			return err
		}
	}
	return nil
}

// reason returns the fault of the part, at a path, that is the reason why this is no argument type.
func (s shape) reason(path []int) error {
	switch s.kind {
	case wrong:
		return faultAt(api.ErrPositive, path)
	case function:
		return s.parts[1].reason(append(path, 1))
	case pair, tied:
		if err := s.parts[0].reason(append(path, 0)); err != nil {
			return err
		}
		if s.kind == tied {
			return faultAt(api.ErrPositive, path)
		}
		return s.parts[1].reason(append(path, 1))
	}
	return nil
}

// counted returns the whole shape of an Arg as hypotheses count it: what is no argument type counts as plain. A pair or function type around such a part is none either, so one such part makes the whole Arg plain.
func (s shape) counted() shape {
	if s.reason(nil) != nil {
		return shape{}
	}
	return s
}
