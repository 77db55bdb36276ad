package reduce_test

import (
	"slices"

	"tenet/api"
	"tenet/level"
	"tenet/table"
	"tenet/term"
)

// naive does head steps as the chapter says them, one after the other and each one by itself. What the rules make is written down as texts, in which constants stand for terms, (app 0 @C ..) for a term with a variable filled in.
type naive struct {
	tab api.Table
}

// done is a step: what the term becomes, the rule, and the path.
type done struct {
	to   api.Term
	rule int
	path []int
}

// step returns the head step of a term.
func (n naive) step(s api.Term) (done, bool) {
	to, rule, examined := n.here(s)
	if rule != 0 {
		return done{to, rule, nil}, true
	}
	for _, i := range examined {
		d, ok := n.step(s.L[i])
		if ok {
			out, _ := term.Put(s, []int{i}, d.to)
			return done{out, d.rule, append([]int{i}, d.path...)}, true
		}
	}
	return done{}, false
}

// here returns what a term becomes by a rule at the term itself, or the parts that are examined.
func (n naive) here(s api.Term) (api.Term, int, []int) {
	none := api.Term{}
	switch s.Op {
	case api.TApp:
		if f := s.L[0]; f.Op == api.TLam {
			return term.Fill(f.L[1], s.L[1:]), api.RBeta, nil
		}
		return none, 0, []int{0}
	case api.TFst, api.TSnd:
		if p := s.L[0]; p.Op == api.TPair {
			return p.L[2+s.Op-api.TFst], api.RProj, nil
		}
		return none, 0, []int{0}
	case api.TConst:
		if body, ok, _ := table.BodyOf(n.tab, s.S, s.U); ok {
			return body, api.RUnfold, nil
		}
	case api.TElim:
		return n.elim(s)
	case api.TOut:
		if c := s.L[4]; c.Op == api.TClass {
			return term.Fill(s.L[2], c.L[1:]), api.RClass, nil
		}
		return none, 0, []int{4}
	case api.TEq:
		return n.equal(s)
	case api.TCast:
		return n.cast(s)
	}
	return none, 0, nil
}

// has reports whether the table has what a node names: families alone.
func (n naive) has(s api.Term) bool {
	if s.Op != api.TData && s.Op != api.TCon && s.Op != api.TElim {
		return true
	}
	if !knows(n.tab, s.S, len(s.U)) {
		return false
	}
	return s.Op != api.TCon || s.N < len(n.tab.Decls[table.Find(n.tab, s.S)].Cons)
}

func (n naive) elim(s api.Term) (api.Term, int, []int) {
	c := s.L[len(s.L)-1]
	if !n.has(s) {
		return api.Term{}, 0, nil
	}
	if c.Op != api.TCon || c.S != s.S {
		return api.Term{}, 0, []int{len(s.L) - 1}
	}
	v, code := table.Values(n.tab, s, c.N, c.L[0], c.L[1])
	if code != api.OK || !n.has(c) {
		return api.Term{}, 0, nil
	}
	return term.Fill(s.L[1+c.N], []api.Term{v, c.L[1], c.L[0]}), api.RCase, nil
}

// values are what constants stand for in a text.
type values map[string]api.Term

// made returns the term of a text, in which constants have become what they stand for and level variables are levels; false if one of them is above a limit.
func made(s string, parts values, levels ...api.Level) (api.Term, bool) {
	t, e := term.Parse(s)
	if e != api.OK {
		panic("no term: " + s)
	}
	t, code := term.SetLevels(t, levels)
	return put(t, parts, 0), code == api.OK
}

// put puts the parts in, below some binders. A filled term that has nothing to do with these binders is filled outside of them.
func put(t api.Term, parts values, under int) api.Term {
	if v, ok := parts[t.S]; ok && t.Op == api.TConst {
		out, _ := term.Shift(v, under, 0)
		return out
	}
	if f, args := filling(t); f != "" {
		return filled(parts[f], args, parts, under)
	}
	t = cloned(t)
	for i := range t.L {
		t.L[i] = put(t.L[i], parts, under+term.Binds(t, i))
	}
	return t
}

// filling returns the name of a term that is filled, and with what: C and D with one variable, R and S with two ones; an empty name for other nodes.
func filling(t api.Term) (string, []api.Term) {
	if t.Op != api.TApp {
		return "", nil
	}
	f := t.L[0]
	switch {
	case f.Op == api.TConst && (f.S == "C" || f.S == "D"):
		return f.S, t.L[1:]
	case f.Op == api.TApp && f.L[0].Op == api.TConst && (f.L[0].S == "R" || f.L[0].S == "S"):
		return f.L[0].S, []api.Term{t.L[1], f.L[1]}
	}
	return "", nil
}

func filled(t api.Term, args []api.Term, parts values, under int) api.Term {
	var by []api.Term
	outside := true
	for _, a := range args {
		outside = outside && term.Free(a) == 0
	}
	if outside {
		for _, a := range args {
			by = append(by, put(a, parts, 0))
		}
		out, _ := term.Shift(term.Fill(t, by), under, 0)
		return out
	}
	for _, a := range args {
		by = append(by, put(a, parts, under))
	}
	t, _ = term.Shift(t, under, len(by))
	return term.Fill(t, by)
}

// becomes returns what a rule makes, by a text.
func becomes(rule int, s string, parts values, levels ...api.Level) (api.Term, int, []int) {
	t, ok := made(s, parts, levels...)
	if !ok {
		return api.Term{}, 0, nil
	}
	return t, rule, nil
}

func isFormer(t api.Term) bool {
	return slices.Contains([]int{api.TPi, api.TSigma, api.TUnit, api.TType, api.TProp, api.TData, api.TQuo, api.TTrue, api.TFalse}, t.Op)
}

func (n naive) equal(s api.Term) (api.Term, int, []int) {
	none := api.Term{}
	typ, a, b, l := s.L[0], s.L[1], s.L[2], s.U[0]
	parts := values{"a": a, "b": b}
	if typ.Op == api.TPi || typ.Op == api.TSigma {
		parts["B"], parts["C"] = typ.L[0], typ.L[1]
	}
	switch typ.Op {
	case api.TPi:
		return becomes(api.REqPi, []string{
			"(pi 2 @B (eq u0 (app 0 @C #0) (app 0 @a #0) (app 0 @b #0)))",
			"(pi 3 @B (eq u0 (app 0 @C #0) (app 1 @a #0) (app 1 @b #0)))",
		}[typ.N%2], parts, l)
	case api.TSigma:
		if typ.N == 3 {
			return none, 0, nil
		}
		return becomes(api.REqPair, []string{
			"(sig 3 (eq u0 @B (fst @a) (fst @b)) (eq u0 (app 0 @C (fst @b)) (cast u0 (app 0 @C (fst @a)) (app 0 @C (fst @b)) (subst u0 @B (eq u0+1 (type u0) (app 0 @C (fst @a)) (app 0 @C #0)) (fst @a) (fst @b) #0 (refl u0+1 (type u0) (app 0 @C (fst @a)))) (snd @a)) (snd @b)))",
			"(eq u0 (app 0 @C (fst @b)) (snd @a) (snd @b))",
			"(eq u0 @B (fst @a) (fst @b))",
		}[typ.N], parts, l)
	case api.TUnit:
		return becomes(api.REqUnit, "true", parts)
	case api.TProp:
		return becomes(api.REqProp, "(sig 3 (pi 3 @a @b) (pi 3 @b @a))", parts)
	case api.TData:
		return n.equalCons(s)
	case api.TQuo:
		if a.Op != api.TClass || b.Op != api.TClass {
			return none, 0, []int{1, 2}
		}
		return becomes(api.REqQuo, "(app 0 (app 0 @R @a) @b)", values{"R": typ.L[1], "a": a.L[1], "b": b.L[1]})
	case api.TType:
		if !isFormer(a) || !isFormer(b) {
			return none, 0, []int{1, 2}
		}
		return n.equalTypes(s)
	}
	return none, 0, []int{0}
}

func (n naive) equalCons(s api.Term) (api.Term, int, []int) {
	typ, a, b := s.L[0], s.L[1], s.L[2]
	if !n.has(typ) {
		return api.Term{}, 0, nil
	}
	if a.Op != api.TCon || a.S != typ.S || b.Op != api.TCon || b.S != typ.S {
		return api.Term{}, 0, []int{1, 2}
	}
	if !n.has(a) || !n.has(b) {
		return api.Term{}, 0, nil
	}
	if a.N != b.N {
		return becomes(api.REqCon, "false", nil)
	}
	sort, c1 := table.Sort(n.tab, typ.S, typ.U)
	arg, c2 := table.Arg(n.tab, typ.S, typ.U, a.N, typ.L[0])
	if c1 != api.OK || c2 != api.OK {
		return api.Term{}, 0, nil
	}
	return becomes(api.REqCon, "(eq u0 @A @a @b)", values{"A": arg, "a": a.L[1], "b": b.L[1]}, sort)
}

// How the levels of two types go together.
const (
	same = iota
	apart
	neither
)

func relation(u, w []api.Level) int {
	all := true
	for i := range u {
		for _, x := range [][2]api.Level{{u[i], w[i]}, {w[i], u[i]}} {
			if up, code := level.Suc(x[0]); code == api.OK && level.Leq(up, x[1]) {
				return apart
			}
		}
		all = all && level.Equal(u[i], w[i])
	}
	if all {
		return same
	}
	return neither
}

// oneForm returns how two formers go together: same if they have one form.
func (n naive) oneForm(a, b api.Term) int {
	if !n.has(a) || !n.has(b) {
		return neither
	}
	if a.Op != b.Op || a.S != b.S || a.N != b.N || a.Op == api.TPi && a.N > 1 || a.Op == api.TTrue || a.Op == api.TFalse {
		return apart
	}
	if a.Op == api.TData || a.Op == api.TType {
		return relation(a.U, b.U)
	}
	return same
}

func (n naive) equalTypes(s api.Term) (api.Term, int, []int) {
	a, b, l, k := s.L[1], s.L[2], s.U[0], s.L[0].U[0]
	switch n.oneForm(a, b) {
	case apart:
		return becomes(api.REqType, "false", nil)
	case neither:
		return api.Term{}, 0, nil
	}
	switch a.Op {
	case api.TPi:
		return becomes(api.REqType, []string{
			"(sig 3 (eq u0 (type u1) @Y @X) (pi 2 @Y (eq u0 (type u1) (app 0 @C (cast u1 @Y @X #1 #0)) (app 0 @D #0))))",
			"(sig 3 (eq 0 prop @Y @X) (pi 3 @Y (eq u0 (type u1) (app 0 @C (app 1 (fst #1) #0)) (app 0 @D #0))))",
		}[a.N], values{"X": a.L[0], "C": a.L[1], "Y": b.L[0], "D": b.L[1]}, l, k)
	case api.TSigma:
		return becomes(api.REqType, []string{
			"(sig 3 (eq u0 (type u1) @X @Y) (pi 2 @X (eq u0 (type u1) (app 0 @C #0) (app 0 @D (cast u1 @X @Y #1 #0)))))",
			"(sig 3 (eq 0 prop @X @Y) (pi 3 @X (eq u0 (type u1) (app 0 @C #0) (app 0 @D (app 1 (fst #1) #0)))))",
			"(sig 3 (eq u0 (type u1) @X @Y) (pi 2 @X (eq 0 prop (app 0 @C #0) (app 0 @D (cast u1 @X @Y #1 #0)))))",
			"(sig 3 (eq 0 prop @X @Y) (pi 3 @X (eq 0 prop (app 0 @C #0) (app 0 @D (app 1 (fst #1) #0)))))",
		}[a.N], values{"X": a.L[0], "C": a.L[1], "Y": b.L[0], "D": b.L[1]}, l, k)
	case api.TQuo:
		return becomes(api.REqType, "(sig 3 (eq u0 (type u1) @X @Y) (pi 2 @X (pi 2 @X (eq 0 prop (app 0 (app 0 @R #1) #0) (app 0 (app 0 @S (cast u1 @X @Y #2 #1)) (cast u1 @X @Y #2 #0))))))", values{"X": a.L[0], "R": a.L[1], "Y": b.L[0], "S": b.L[1]}, l, k)
	case api.TData:
		over, c1 := table.Over(n.tab, a.S, a.U)
		param, c2 := table.Param(n.tab, a.S, a.U)
		if c1 != api.OK || c2 != api.OK {
			return api.Term{}, 0, nil
		}
		return becomes(api.REqType, "(eq u0 @P @p @q)", values{"P": param, "p": a.L[0], "q": b.L[0]}, over)
	}
	return becomes(api.REqType, "true", nil)
}

func (n naive) cast(s api.Term) (api.Term, int, []int) {
	from, to, l := s.L[0], s.L[1], s.U[0]
	parts := values{"A": from, "B": to, "e": s.L[2], "a": s.L[3]}
	if !isFormer(from) || !isFormer(to) {
		return api.Term{}, 0, []int{0, 1}
	}
	switch n.oneForm(from, to) {
	case apart:
		return becomes(api.RClash, "(absurd 0 @B @e)", parts)
	case neither:
		return api.Term{}, 0, nil
	}
	if from.Op == api.TPi || from.Op == api.TSigma || from.Op == api.TQuo {
		parts["X"], parts["C"], parts["Y"], parts["D"] = from.L[0], from.L[1], to.L[0], to.L[1]
	}
	switch from.Op {
	case api.TPi:
		return becomes(api.RCast, []string{
			"(lam 0 @Y (cast u0 (app 0 @C (cast u0 @Y @X (fst @e) #0)) (app 0 @D #0) (app 0 (snd @e) #0) (app 0 @a (cast u0 @Y @X (fst @e) #0))))",
			"(lam 1 @Y (cast u0 (app 0 @C (app 1 (fst (fst @e)) #0)) (app 0 @D #0) (app 1 (snd @e) #0) (app 1 @a (app 1 (fst (fst @e)) #0))))",
		}[from.N], parts, l)
	case api.TSigma:
		return n.castPair(s, parts)
	case api.TQuo:
		if s.L[3].Op != api.TClass {
			return api.Term{}, 0, []int{3}
		}
		parts["c"] = s.L[3].L[1]
		return becomes(api.RCast, "(class @B (cast u0 @X @Y (fst @e) @c))", parts, l)
	case api.TData:
		return n.castCon(s)
	}
	return becomes(api.RCast, "@a", parts)
}

func (n naive) castPair(s api.Term, parts values) (api.Term, int, []int) {
	from, to, l := s.L[0], s.L[1], s.U[0]
	parts["u"], _ = made("(cast u0 @X @Y (fst @e) (fst @a))", parts, l)
	parts["types"], _ = made("(app 0 (snd @e) (fst @a))", parts)
	if from.N&1 != 0 {
		parts["u"], _ = made("(app 1 (fst (fst @e)) (fst @a))", parts)
		parts["types"], _ = made("(app 1 (snd @e) (fst @a))", parts)
	}
	parts["v"], _ = made("(cast u0 (app 0 @C (fst @a)) (app 0 @D @u) @types (snd @a))", parts, l)
	if from.N&2 != 0 {
		parts["v"], _ = made("(app 1 (fst @types) (snd @a))", parts)
	}
	return api.Term{Op: api.TPair, N: from.N, L: []api.Term{to.L[0], to.L[1], parts["u"], parts["v"]}}, api.RCast, nil
}

func (n naive) castCon(s api.Term) (api.Term, int, []int) {
	from, to, c := s.L[0], s.L[1], s.L[3]
	if c.Op != api.TCon || c.S != from.S {
		return api.Term{}, 0, []int{3}
	}
	if !n.has(c) {
		return api.Term{}, 0, nil
	}
	var codes [6]api.Errno
	var sort, over api.Level
	parts := values{"e": s.L[2], "c": c.L[1], "p": from.L[0], "q": to.L[0]}
	sort, codes[0] = table.Sort(n.tab, from.S, from.U)
	over, codes[1] = table.Over(n.tab, from.S, from.U)
	parts["P"], codes[2] = table.Param(n.tab, from.S, from.U)
	parts["F"], codes[3] = table.Arg(n.tab, from.S, from.U, c.N, from.L[0])
	parts["T"], codes[4] = table.Arg(n.tab, to.S, to.U, c.N, to.L[0])
	parts["C"], codes[5] = table.Arg(n.tab, to.S, to.U, c.N, variable(0))
	for _, code := range codes {
		if code != api.OK {
			return api.Term{}, 0, nil
		}
	}
	arg, ok := made("(cast u0 @F @T (subst u1 @P (eq u0+1 (type u0) @F (app 0 @C #0)) @p @q @e (refl u0+1 (type u0) @F)) @c)", parts, sort, over)
	if !ok {
		return api.Term{}, 0, nil
	}
	return api.Term{Op: api.TCon, S: to.S, U: to.U, N: c.N, L: []api.Term{to.L[0], arg}}, api.RCast, nil
}

// head does head steps as Head does, or as Spine if nothing is unfolded.
func (n naive) head(s api.Term, fuel int, unfold bool) (api.Term, int, api.Errno) {
	if !term.Form(s) || size(s) > api.MaxTerm {
		return api.Term{}, 0, api.ErrForm
	}
	for count := 0; ; count++ {
		d, ok := n.step(s)
		if !ok || d.rule == api.RUnfold && !unfold {
			return s, count, api.OK
		}
		if count == min(max(fuel, 0), api.MaxFuel) || size(d.to) > api.MaxTerm {
			return api.Term{}, 0, api.ErrFuel
		}
		s = d.to
	}
}
