package term_test

import (
	"math/rand"
	"slices"
	"testing"

	"tenet/api"
	"tenet/term"
)

// far is the greatest number of a variable.
const far = 1 << 31

// kinds has a text of a node of each Op, how many variables its parts bind, and which of its parts are proofs.
var kinds = []struct {
	op                  int
	text, binds, proofs string
}{
	{api.TVar, "#0", "", ""},
	{api.TConst, "@a", "", ""},
	{api.TType, "(type 0)", "", ""},
	{api.TProp, "prop", "", ""},
	{api.TPi, "(pi 0 unit unit)", "01", "nn"},
	{api.TLam, "(lam 0 unit unit)", "01", "nn"},
	{api.TApp, "(app 0 unit unit)", "00", "nn"},
	{api.TApp, "(app 1 unit unit)", "00", "ny"},
	{api.TSigma, "(sig 3 unit unit)", "01", "nn"},
	{api.TPair, "(pair 0 unit unit unit unit)", "0100", "nnnn"},
	{api.TPair, "(pair 1 unit unit unit unit)", "0100", "nnyn"},
	{api.TPair, "(pair 2 unit unit unit unit)", "0100", "nnny"},
	{api.TPair, "(pair 3 unit unit unit unit)", "0100", "nnyy"},
	{api.TFst, "(fst unit)", "0", "n"},
	{api.TSnd, "(snd unit)", "0", "n"},
	{api.TUnit, "unit", "", ""},
	{api.TStar, "star", "", ""},
	{api.TTrue, "true", "", ""},
	{api.TTrivial, "trivial", "", ""},
	{api.TFalse, "false", "", ""},
	{api.TAbsurd, "(absurd 0 unit unit)", "00", "ny"},
	{api.TAbsurd, "(absurd 1 unit unit)", "00", "ny"},
	{api.TEq, "(eq 0 unit unit unit)", "000", "nnn"},
	{api.TRefl, "(refl 0 unit unit)", "00", "nn"},
	{api.TSubst, "(subst 0 unit unit unit unit unit unit)", "010000", "nnnnyy"},
	{api.TCast, "(cast 0 unit unit unit unit)", "0000", "nnyn"},
	{api.TCoh, "(coh 0 unit unit unit)", "000", "nyn"},
	{api.TQuo, "(quo 0 unit unit unit unit unit)", "02000", "nnyyy"},
	{api.TClass, "(class unit unit)", "00", "nn"},
	{api.TOut, "(out 0 0 unit unit unit unit unit)", "01100", "nnnyn"},
	{api.TOut, "(out 0 1 unit unit unit unit unit)", "01100", "nnnyn"},
	{api.TData, "(data @a unit)", "0", "n"},
	{api.TCon, "(con @a 0 unit unit)", "00", "nn"},
	{api.TElim, "(elim @a 0 unit unit unit)", "200", "nnn"},
	{api.TElim, "(elim @a 1 unit unit unit unit)", "2300", "nnnn"},
	{api.TElim, "(elim @a 0 unit unit unit unit unit unit unit unit unit unit unit)", "23333333300", "nnnnnnnnnnn"},
	{api.THole, "?0", "", ""},
	{api.TProof, "proof", "", ""},
}

// tm reads a term.
func tm(t *testing.T, s string) api.Term {
	t.Helper()
	x, e := term.Parse(s)
	if e != api.OK {
		t.Fatalf("Parse(%q): %v", s, e)
	}
	return x
}

// list reads terms.
func list(t *testing.T, texts ...string) []api.Term {
	t.Helper()
	var l []api.Term
	for _, s := range texts {
		l = append(l, tm(t, s))
	}
	return l
}

// isText checks a result by its text.
func isText(t *testing.T, call string, got api.Term, want string) {
	t.Helper()
	if s, e := term.Format(got); s != want || e != api.OK {
		t.Errorf("%s is %+v, %q, %v, want %q", call, got, s, e, want)
	}
}

func node(op int, parts ...api.Term) api.Term {
	return api.Term{Op: op, L: parts}
}

func v(n int) api.Term { return api.Term{Op: api.TVar, N: n} }

// lv returns a level with the Const c and, for each two numbers, a variable and its Plus.
func lv(c int, vars ...int) api.Level {
	a := api.Level{Const: c}
	for i := 0; i+1 < len(vars); i += 2 {
		a.Vars = append(a.Vars, api.LVar{V: vars[i], Plus: vars[i+1]})
	}
	return a
}

// deep returns n projections of a term.
func deep(n int, t api.Term) api.Term {
	for range n {
		t = node(api.TFst, t)
	}
	return t
}

// wide returns a valid term with n nodes, for odd n.
func wide(n int) api.Term {
	if n == 1 {
		return node(api.TStar)
	}
	left := n / 4 * 2
	if left%2 == 0 {
		left++
	}
	return node(api.TApp, wide(left), wide(n-1-left))
}

// isZero reports whether a term is the zero value.
func isZero(t api.Term) bool {
	return t.Op == 0 && t.N == 0 && t.S == "" && t.U == nil && t.L == nil
}

// equal compares terms as they are written; nil and empty lists are the same.
func equal(a, b api.Term) bool {
	sameLevel := func(x, y api.Level) bool { return x.Const == y.Const && slices.Equal(x.Vars, y.Vars) }
	return a.Op == b.Op && a.N == b.N && a.S == b.S && slices.EqualFunc(a.U, b.U, sameLevel) && slices.EqualFunc(a.L, b.L, equal)
}

func clone(t api.Term) api.Term {
	out := api.Term{Op: t.Op, N: t.N, S: t.S}
	for _, a := range t.U {
		out.U = append(out.U, api.Level{Const: a.Const, Vars: slices.Clone(a.Vars)})
	}
	for _, p := range t.L {
		out.L = append(out.L, clone(p))
	}
	return out
}

func cloneAll(l []api.Term) []api.Term {
	var out []api.Term
	for _, t := range l {
		out = append(out, clone(t))
	}
	return out
}

// eachNode tells each node of a term, before its parts, with its path and the number of variables bound around it.
func eachNode(t api.Term, tell func(t api.Term, path []int, bound int)) {
	var down func(t api.Term, path []int, bound int)
	down = func(t api.Term, path []int, bound int) {
		tell(t, path, bound)
		for i, p := range t.L {
			down(p, append(slices.Clone(path), i), bound+bindsOf(t, i))
		}
	}
	down(t, nil, 0)
}

// bindsOf is Binds, by kinds.
func bindsOf(t api.Term, i int) int {
	if t.Op == api.TElim {
		switch {
		case i == 0:
			return 2
		case i <= api.MaxCases && i < len(t.L)-2:
			return 3
		}
		return 0
	}
	for _, k := range kinds {
		if k.op == t.Op && i < len(k.binds) {
			return int(k.binds[i] - '0')
		}
	}
	return 0
}

// memory adds the addresses of all lists in a term to a set, and reports whether one of them was there.
func memory(t api.Term, seen map[any]bool) bool {
	shared := false
	add := func(p any) {
		shared = shared || seen[p]
		seen[p] = true
	}
	for i := range t.U {
		if i == 0 {
			add(&t.U[0])
		}
		if len(t.U[i].Vars) > 0 {
			add(&t.U[i].Vars[0])
		}
	}
	for i := range t.L {
		if i == 0 {
			add(&t.L[0])
		}
		if memory(t.L[i], seen) {
			shared = true
		}
	}
	return shared
}

// isNew checks that a result shares memory neither with arguments nor within itself.
func isNew(t *testing.T, call string, got api.Term, args ...api.Term) {
	t.Helper()
	seen := map[any]bool{}
	for _, a := range args {
		memory(a, seen)
	}
	if memory(got, seen) {
		t.Errorf("%s shares memory: %+v of %+v", call, got, args)
	}
}

// anyLevel returns a level, sometimes not a canonical one, and seldom no valid one.
func anyLevel(r *rand.Rand) api.Level {
	a := lv(r.Intn(4))
	for _, i := range r.Perm(3)[:r.Intn(3)] {
		a.Vars = append(a.Vars, api.LVar{V: i, Plus: r.Intn(3)})
	}
	switch r.Intn(12) {
	case 0:
		a.Const = -1
	case 1:
		a.Vars = append(a.Vars, api.LVar{V: 1}, api.LVar{V: 1})
	}
	return a
}

// anyTerm returns a term with some levels whose nodes may be anything, but are of their form mostly.
func anyTerm(r *rand.Rand, levels int) api.Term {
	if r.Intn(8) > 0 {
		return goodNode(r, levels, anyTerm)
	}
	t := api.Term{Op: r.Intn(36) - 3, N: r.Intn(7) - 1, S: []string{"", "b", "9"}[r.Intn(3)]}
	if r.Intn(3) == 0 {
		t.N = []int{-5, far, far + 1, 1 << 40}[r.Intn(4)]
	}
	for range r.Intn(3) {
		t.U = append(t.U, anyLevel(r))
	}
	if levels > 1 {
		for range r.Intn(6) {
			t.L = append(t.L, anyTerm(r, levels-1))
		}
	}
	return t
}

// goodTerm returns a valid term of at most some levels.
func goodTerm(r *rand.Rand, levels int) api.Term {
	return goodNode(r, levels, goodTerm)
}

// goodNode returns a node that has its form, with parts by a function.
func goodNode(r *rand.Rand, levels int, part func(*rand.Rand, int) api.Term) api.Term {
	if levels <= 1 || r.Intn(4) == 0 {
		return v(r.Intn(6))
	}
	k := kinds[r.Intn(len(kinds))]
	t, _ := term.Parse(k.text)
	for i := range t.U {
		t.U[i] = goodLevel(r)
	}
	if t.S != "" {
		t.S = []string{"a", "b", "c.d_1"}[r.Intn(3)]
		for range r.Intn(3) {
			t.U = append(t.U, goodLevel(r))
		}
	}
	if t.Op == api.TVar || t.Op == api.THole {
		t.N = r.Intn(6)
	}
	for i := range t.L {
		t.L[i] = part(r, levels-1)
	}
	return t
}

func goodLevel(r *rand.Rand) api.Level {
	return []api.Level{lv(0), lv(3), lv(0, 0, 0), lv(0, 2, 1), lv(2, 0, 1), lv(0, 0, 2, 1, 0), lv(5, 1, 1, 2, 4)}[r.Intn(7)]
}

// someTerms runs a test for many terms, always the same ones, that are small enough to look at all of them.
func someTerms(times int, make func(*rand.Rand, int) api.Term, test func(r *rand.Rand, x api.Term)) {
	r := rand.New(rand.NewSource(3))
	for range times {
		x := make(r, 1+r.Intn(4))
		if n, _ := term.Size(x); n <= 300 {
			test(r, x)
		}
	}
}

// anyList returns up to three terms.
func anyList(r *rand.Rand, make func(*rand.Rand, int) api.Term) []api.Term {
	var l []api.Term
	for range r.Intn(4) {
		l = append(l, make(r, 1+r.Intn(3)))
	}
	return l
}
