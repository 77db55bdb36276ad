package table

import (
	"tenet/api"
	"tenet/level"
	"tenet/term"
)

// TypeOf is described in P4.3.
func TypeOf(t api.Table, name string, u []api.Level) (api.Term, api.Errno) {
	d, code := constant(t, name, u)
	if code != api.OK {
		return api.Term{}, code
	}
	return term.SetLevels(d.Type, u)
}

// BodyOf is described in P4.3.
func BodyOf(t api.Table, name string, u []api.Level) (api.Term, bool, api.Errno) {
	d, code := constant(t, name, u)
	if code != api.OK || d.Kind != api.KDef {
		return api.Term{}, false, code
	}
	body, code := term.SetLevels(d.Body, u)
	return body, code == api.OK, code
}

// Param is described in P4.3.
func Param(t api.Table, name string, u []api.Level) (api.Term, api.Errno) {
	d, code := family(t, name, u)
	if code != api.OK {
		return api.Term{}, code
	}
	return term.SetLevels(d.Param, u)
}

// Over is described in P4.3.
func Over(t api.Table, name string, u []api.Level) (api.Level, api.Errno) {
	d, code := family(t, name, u)
	if code != api.OK {
		return api.Level{}, code
	}
	return level.Subst(d.Over, u)
}

// Sort is described in P4.3.
func Sort(t api.Table, name string, u []api.Level) (api.Level, api.Errno) {
	d, code := family(t, name, u)
	if code != api.OK {
		return api.Level{}, code
	}
	return level.Subst(d.Sort, u)
}

// Arg is described in P4.3.
func Arg(t api.Table, name string, u []api.Level, k int, p api.Term) (api.Term, api.Errno) {
	_, arg, code := openArg(t, name, u, k)
	if code != api.OK {
		return api.Term{}, code
	}
	return term.Fill(arg, []api.Term{p}), api.OK
}

// openArg returns a family, and the Arg of its constructor k with levels put in, in which the variable 0 is the parameter still.
func openArg(t api.Table, name string, u []api.Level, k int) (api.Decl, api.Term, api.Errno) {
	d, code := family(t, name, u)
	if code != api.OK {
		return api.Decl{}, api.Term{}, code
	}
	if k < 0 || k >= len(d.Cons) {
		return api.Decl{}, api.Term{}, api.ErrArity
	}
	arg, code := term.SetLevels(d.Cons[k].Arg, u)
	return d, arg, code
}

// constant returns the definition or assumption with a name, if there are as many levels as it asks for.
func constant(t api.Table, name string, u []api.Level) (api.Decl, api.Errno) {
	return named(t, api.TConst, name, u)
}

// family is constant for families.
func family(t api.Table, name string, u []api.Level) (api.Decl, api.Errno) {
	return named(t, api.TData, name, u)
}

// named returns the declaration that a node with this Op would name.
func named(t api.Table, op int, name string, u []api.Level) (api.Decl, api.Errno) {
	i := Find(t, name)
	if i < 0 || !mayName(op, t.Decls[i].Kind) {
		return api.Decl{}, api.ErrName
	}
	if len(u) != t.Decls[i].Levels {
		return api.Decl{}, api.ErrArity
	}
	return t.Decls[i], api.OK
}
