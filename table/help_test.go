package table_test

import (
	"math/rand"
	"slices"
	"strings"
	"testing"

	"tenet/api"
	"tenet/term"
)

// nat has the texts that stand for terms about numbers.
var nat = strings.NewReplacer("NAT", "(data @Nat star)", "ZERO", "(con @Nat 0 star star)", "SELF", "(data @D star)")

// parse reads a term of a test. It panics where there is none, so that terms may be made outside of tests.
func parse(s string) api.Term {
	t, e := term.Parse(nat.Replace(s))
	if e != api.OK {
		panic("no term: " + s)
	}
	return t
}

// text writes a term, also one that has no text.
func text(t api.Term) string {
	if isZero(t) {
		return "nothing"
	}
	s, e := term.Format(t)
	if e != api.OK {
		return "a term without a text"
	}
	return s
}

func node(op int, parts ...api.Term) api.Term {
	return api.Term{Op: op, L: parts}
}

// lv returns a level with the Const c and, for each two numbers, a variable and its Plus.
func lv(c int, vars ...int) api.Level {
	a := api.Level{Const: c}
	for i := 0; i+1 < len(vars); i += 2 {
		a.Vars = append(a.Vars, api.LVar{V: vars[i], Plus: vars[i+1]})
	}
	return a
}

// u is the level variable v.
func u(v int) api.Level { return lv(0, v, 0) }

func equalLevels(a, b api.Level) bool {
	return a.Const == b.Const && slices.Equal(a.Vars, b.Vars)
}

// equal compares terms as they are written; nil and empty lists are the same.
func equal(a, b api.Term) bool {
	return a.Op == b.Op && a.N == b.N && a.S == b.S && slices.EqualFunc(a.U, b.U, equalLevels) && slices.EqualFunc(a.L, b.L, equal)
}

func isZero(t api.Term) bool {
	return equal(t, api.Term{})
}

func define(name, typ, body string) api.Decl {
	return api.Decl{Name: name, Kind: api.KDef, Type: parse(typ), Body: parse(body)}
}

func hide(name, typ, body string) api.Decl {
	d := define(name, typ, body)
	d.Kind = api.KOpaque
	return d
}

func assume(name, typ string) api.Decl {
	return api.Decl{Name: name, Kind: api.KAssume, Type: parse(typ)}
}

// family returns a family whose constructors are called a, b and so on.
func family(name, param string, args ...string) api.Decl {
	d := api.Decl{Name: name, Kind: api.KData, Param: parse(param)}
	for i, arg := range args {
		d.Cons = append(d.Cons, api.Con{Name: string(rune('a' + i)), Arg: parse(arg)})
	}
	return d
}

// leveled gives level parameters to a declaration.
func leveled(d api.Decl, levels int) api.Decl {
	d.Levels = levels
	return d
}

func tableOf(d ...api.Decl) api.Table {
	return api.Table{Decls: d}
}

// with returns a table with some declarations more.
func with(t api.Table, d ...api.Decl) api.Table {
	return api.Table{Decls: slices.Concat(t.Decls, d)}
}

// basic is a well formed table with declarations of each Kind.
func basic() api.Table {
	box := leveled(family("Box", "(type u0)", "#0"), 1)
	box.Over, box.Sort = lv(0, 0, 1), u(0)
	return tableOf(
		family("Nat", "unit", "unit", "NAT"),
		family("Bool", "unit", "unit", "unit"),
		define("plus", "(pi 0 NAT (pi 0 NAT NAT))", "(lam 0 NAT (lam 0 NAT (elim @Nat 0 NAT #3 (con @Nat 1 star #0) star #1)))"),
		hide("proved", "true", "trivial"),
		assume("claimed", "(eq 0 NAT ZERO ZERO)"),
		box,
		leveled(define("id", "(pi 0 (type u0) (pi 0 #0 #1))", "(lam 0 (type u0) (lam 0 #0 #0))"), 1),
		family("Vec", "NAT", "(sig 2 unit (eq 0 NAT #1 ZERO))", "(sig 0 NAT (sig 0 NAT (sig 2 (data @Vec #1) (eq 0 NAT #3 (con @Nat 1 star #2)))))"),
		family("Tree", "unit", "unit", "(sig 0 NAT (pi 0 NAT (data @Tree star)))"),
	)
}

// occurs reports whether a family occurs in a term: at a node that names families.
func occurs(name string, t api.Term) bool {
	if t.S == name && (t.Op == api.TData || t.Op == api.TCon || t.Op == api.TElim) {
		return true
	}
	return slices.ContainsFunc(t.L, func(part api.Term) bool { return occurs(name, part) })
}

// has reports whether a bound variable occurs in a term.
func has(t api.Term, n int) bool {
	if t.Op == api.TVar && t.N == n {
		return true
	}
	for i, part := range t.L {
		if has(part, n+term.Binds(t, i)) {
			return true
		}
	}
	return false
}

// isArgument is the definition of an argument type.
func isArgument(d api.Decl, t api.Term) bool {
	if !occurs(d.Name, t) {
		return true
	}
	switch {
	case t.Op == api.TData && t.S == d.Name && len(t.L) == 1:
		return isOwn(d, t.U) && !occurs(d.Name, t.L[0])
	case t.Op == api.TPi && len(t.L) == 2:
		return t.N&2 == 0 && !occurs(d.Name, t.L[0]) && isArgument(d, t.L[1])
	case t.Op == api.TSigma && len(t.L) == 2:
		return marksFit(d, t) && isArgument(d, t.L[0]) && !isTied(d, t) && isArgument(d, t.L[1])
	}
	return false
}

func isOwn(d api.Decl, l []api.Level) bool {
	var own []api.Level
	for i := range d.Levels {
		own = append(own, u(i))
	}
	return slices.EqualFunc(l, own, equalLevels)
}

// marksFit reports whether the parts of a pair type that are propositions are plain.
func marksFit(d api.Decl, t api.Term) bool {
	return (t.N&1 == 0 || !occurs(d.Name, t.L[0])) && (t.N&2 == 0 || !occurs(d.Name, t.L[1]))
}

func isTied(d api.Decl, t api.Term) bool {
	return occurs(d.Name, t.L[0]) && has(t.L[1], 0)
}

// reason is the path to the part of a term that is no argument type for which the term is none.
func reason(d api.Decl, t api.Term) []int {
	if t.Op == api.TPi && len(t.L) == 2 && t.N&2 == 0 && !occurs(d.Name, t.L[0]) {
		return append([]int{1}, reason(d, t.L[1])...)
	}
	if t.Op != api.TSigma || len(t.L) != 2 || !marksFit(d, t) {
		return nil
	}
	if !isArgument(d, t.L[0]) {
		return append([]int{0}, reason(d, t.L[0])...)
	}
	if isTied(d, t) {
		return nil
	}
	return append([]int{1}, reason(d, t.L[1])...)
}

// isWhole reports whether all of a result is memory of its own.
func isWhole(t *testing.T, call string, got api.Term, args ...api.Term) {
	t.Helper()
	seen := map[any]bool{}
	for _, a := range args {
		memory(a, seen)
	}
	if memory(got, seen) {
		t.Errorf("%s shares memory: %s", call, text(got))
	}
}

// memory adds the addresses of all lists in a term to a set, and reports whether one of them was there.
func memory(t api.Term, seen map[any]bool) bool {
	shared := false
	add := func(p any) {
		shared = shared || seen[p]
		seen[p] = true
	}
	for i := range t.U {
		if i == 0 {
			add(&t.U[0])
		}
		if len(t.U[i].Vars) > 0 {
			add(&t.U[i].Vars[0])
		}
	}
	for i := range t.L {
		if i == 0 {
			add(&t.L[0])
		}
		if memory(t.L[i], seen) {
			shared = true
		}
	}
	return shared
}

// termsOf returns all terms of a table.
func termsOf(t api.Table) []api.Term {
	var l []api.Term
	for _, d := range t.Decls {
		l = append(l, d.Type, d.Body, d.Param)
		for _, c := range d.Cons {
			l = append(l, c.Arg)
		}
	}
	return l
}

// cloned returns a term of new memory.
func cloned(t api.Term) api.Term {
	t.U, t.L = slices.Clone(t.U), slices.Clone(t.L)
	for i := range t.U {
		t.U[i].Vars = slices.Clone(t.U[i].Vars)
	}
	for i := range t.L {
		t.L[i] = cloned(t.L[i])
	}
	return t
}

// deep returns n projections of a term.
func deep(n int, t api.Term) api.Term {
	for range n {
		t = node(api.TFst, t)
	}
	return t
}

// wide returns a term with n nodes, for odd n, without great depth.
func wide(n int) api.Term {
	if n == 1 {
		return node(api.TStar)
	}
	left := n / 4 * 2
	if left%2 == 0 {
		left++
	}
	return node(api.TApp, wide(left), wide(n-1-left))
}

// plainTerm returns a small term without names, with variables below free.
func plainTerm(r *rand.Rand, free int) api.Term {
	switch r.Intn(7) {
	case 0:
		return node(api.TPi, plainTerm(r, free), parse("unit"))
	case 4:
		return node(api.TLam, plainTerm(r, free), plainTerm(r, free+1))
	case 1:
		return api.Term{Op: api.TEq, U: []api.Level{u(r.Intn(2))}, L: []api.Term{parse("unit"), plainTerm(r, free), parse("star")}}
	case 2:
		return node(api.TApp, parse("(lam 0 unit #0)"), plainTerm(r, free))
	case 3:
		return parse("unit")
	}
	return api.Term{Op: api.TVar, N: r.Intn(free)}
}

// goodArg returns an argument type of a family with variables below free.
func goodArg(r *rand.Rand, d api.Decl, free, levels int) api.Term {
	kind := r.Intn(5)
	if levels <= 1 && kind > 1 {
		kind = 1
	}
	switch kind {
	case 0:
		return plainTerm(r, free)
	case 1:
		return itself(d, plainTerm(r, free))
	case 2:
		return api.Term{Op: api.TPi, N: r.Intn(2), L: []api.Term{plainTerm(r, free), goodArg(r, d, free+1, levels-1)}}
	}
	first := goodArg(r, d, free, levels-1)
	second := goodArg(r, d, free+1, levels-1)
	if occurs(d.Name, first) {
		second, _ = term.Shift(goodArg(r, d, free, levels-1), 1, 0)
	}
	mark := 0
	if !occurs(d.Name, first) {
		mark |= r.Intn(2)
	}
	if !occurs(d.Name, second) {
		mark |= 2 * r.Intn(2)
	}
	return api.Term{Op: api.TSigma, N: mark, L: []api.Term{first, second}}
}

// far returns a term in which some of the free variables are among the greatest there are, or among those that are greater still. Under says how many binders there are around it.
func far(r *rand.Rand, t api.Term, under int) api.Term {
	t = cloned(t)
	if t.Op == api.TVar && t.N >= under && r.Intn(3) > 0 {
		t.N = 1<<31 + 2 - r.Intn(9)
	}
	for i := range t.L {
		t.L[i] = far(r, t.L[i], under+term.Binds(t, i))
	}
	return t
}

// itself is a family at a parameter.
func itself(d api.Decl, parameter api.Term) api.Term {
	t := api.Term{Op: api.TData, S: d.Name, L: []api.Term{parameter}}
	for i := range d.Levels {
		t.U = append(t.U, u(i))
	}
	return t
}

// anyArg returns a term in which a family may occur anywhere, and which need not have its form.
func anyArg(r *rand.Rand, d api.Decl, levels int) api.Term {
	if levels <= 1 {
		return [...]api.Term{parse("unit"), parse("#0"), parse("#1"), parse("#2"), itself(d, parse("star")), itself(d, parse("#0"))}[r.Intn(6)]
	}
	sub := func() api.Term { return anyArg(r, d, levels-1) }
	switch r.Intn(16) {
	case 0, 1, 2:
		return api.Term{Op: api.TPi, N: r.Intn(5) & 3, L: []api.Term{sub(), sub()}}
	case 3, 4, 5, 6:
		return api.Term{Op: api.TSigma, N: r.Intn(8) & 3, L: []api.Term{sub(), sub()}}
	case 7:
		return itself(d, sub())
	case 8:
		return api.Term{Op: api.TData, S: d.Name, U: []api.Level{u(r.Intn(2)), lv(r.Intn(2), 1, 0)}[:r.Intn(3)], L: []api.Term{parse("star")}}
	case 9:
		return api.Term{Op: api.TData, S: "E", L: []api.Term{sub()}}
	case 10:
		return api.Term{Op: api.TLam + r.Intn(26), S: d.Name, N: r.Intn(3), L: []api.Term{sub(), sub()}[:r.Intn(3)]}
	case 11:
		return api.Term{Op: []int{api.TPi, api.TSigma, api.TData}[r.Intn(3)], S: d.Name, L: []api.Term{sub(), sub(), sub()}[:r.Intn(4)]}
	case 12:
		return api.Term{Op: api.TConst, S: []string{d.Name, "E"}[r.Intn(2)]}
	}
	return sub()
}
