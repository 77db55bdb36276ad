package term_test

import (
	"math"
	"math/rand"
	"testing"

	"tenet/api"
	"tenet/term"
)

// put is what becomes of a variable: a term or, if As is nil, another number.
type put struct {
	as *api.Term
	n  int
}

// replaced is substitution by its definition: what the variables become is told by a function, which below binders leaves theirs alone and shifts what it tells of the other ones.
func replaced(t api.Term, by func(n int) put) api.Term {
	out := api.Term{Op: t.Op, N: t.N, S: t.S, U: t.U}
	if t.Op == api.TVar && 0 <= t.N && t.N <= far {
		p := by(t.N)
		if p.as != nil {
			return *p.as
		}
		out.N = p.n
	}
	for i, part := range t.L {
		out.L = append(out.L, replaced(part, below(bindsOf(t, i), by)))
	}
	return out
}

func below(k int, by func(n int) put) func(n int) put {
	return func(n int) put {
		if n < k {
			return put{n: n}
		}
		p := by(n - k)
		if p.as != nil {
			up := replaced(*p.as, func(m int) put { return put{n: m + k} })
			return put{as: &up}
		}
		return put{n: p.n + k}
	}
}

func filled(t api.Term, by []api.Term) api.Term {
	return replaced(t, func(n int) put {
		if n < len(by) {
			return put{as: &by[n]}
		}
		return put{n: n - len(by)}
	})
}

func shifted(t api.Term, by, from int) (api.Term, bool) {
	ok := true
	out := replaced(t, func(n int) put {
		if n < from {
			return put{n: n}
		}
		ok = ok && n+by >= from
		return put{n: n + by}
	})
	return out, ok
}

// freeOf is Free by its definition.
func freeOf(t api.Term) int {
	n := 0
	eachNode(t, func(t api.Term, _ []int, bound int) {
		if t.Op == api.TVar && t.N <= far {
			n = max(n, t.N-bound+1)
		}
	})
	return n
}

// P3.3

func TestFree(t *testing.T) {
	for _, x := range []struct {
		s    string
		want int
	}{
		{"star", 0}, {"#0", 1}, {"#7", 8}, {"?7", 0}, {"@a", 0}, {"(lam 0 unit #0)", 0}, {"(lam 0 #0 unit)", 1}, {"(lam 0 #1 (app 0 #0 #1))", 2}, {"(lam 0 unit (lam 0 unit #1))", 0}, {"(lam 0 unit (lam 0 unit #2))", 1},
		{"(pair 0 #1 #3 #0 #1)", 3}, {"(quo 0 unit #1 star star star)", 0}, {"(quo 0 unit #2 star star star)", 1}, {"(out 0 0 star #0 #0 #0 star)", 1}, {"(subst 0 unit #0 star star star star)", 0}, {"(subst 0 unit star star #4 star star)", 5},
		{"(elim @a 0 #1 #2 #2 star star)", 0}, {"(elim @a 0 #2 #2 star star)", 1}, {"(elim @a 0 #1 #3 star star)", 1}, {"(elim @a 0 #1 #2 #0 star)", 1}, {"(elim @a 0 #1 #2 star #0)", 1}, {"(elim @a 0 #1 #0 star)", 1},
	} {
		if n := term.Free(tm(t, x.s)); n != x.want {
			t.Errorf("Free(%s) = %d, want %d", x.s, n, x.want)
		}
	}
	someTerms(3000, anyTerm, func(_ *rand.Rand, x api.Term) {
		if n := term.Free(x); n != freeOf(x) {
			t.Errorf("Free(%+v) = %d, want %d", x, n, freeOf(x))
		}
	})
}

func TestShift(t *testing.T) {
	for _, x := range []struct {
		s        string
		by, from int
		want     string
	}{
		{"#0", 3, 0, "#3"}, {"#3", -3, 0, "#0"}, {"#3", -2, 1, "#1"}, {"#0", -2, 1, "#0"}, {"#0", 5, 1, "#0"}, {"#1", 5, 1, "#6"}, {"star", -9, 0, "star"}, {"?3", 2, 0, "?3"}, {"(con @a 3 #0 #1)", 2, 0, "(con @a 3 #2 #3)"},
		{"(lam 0 #0 (app 0 #0 #1))", 1, 0, "(lam 0 #1 (app 0 #0 #2))"}, {"(lam 0 unit #0)", -5, 0, "(lam 0 unit #0)"}, {"(lam 0 #0 #1)", 4, 1, "(lam 0 #0 #1)"}, {"(lam 0 #1 #2)", 4, 1, "(lam 0 #5 #6)"},
		{"(elim @a{u0} 1 #2 #3 #0 #1)", 2, 0, "(elim @a{u0} 1 #4 #5 #2 #3)"}, {"(app 0 #0 #3)", -2, 1, "(app 0 #0 #1)"},
	} {
		got, ok := term.Shift(tm(t, x.s), x.by, x.from)
		if !ok {
			t.Errorf("Shift(%s, %d, %d) is false", x.s, x.by, x.from)
		}
		isText(t, "Shift of "+x.s, got, x.want)
	}
}

func TestShiftIsFalse(t *testing.T) {
	for _, x := range []struct {
		t        api.Term
		by, from int
		want     bool
	}{
		{v(0), -1, 0, false}, {v(2), -2, 1, false}, {v(3), -2, 1, true}, {tm(t, "(lam 0 #4 #1)"), -1, 0, false}, {tm(t, "(lam 0 #4 #2)"), -1, 0, true}, {tm(t, "(app 0 #9 (app 0 #0 #9))"), -1, 0, false},
		{v(0), 0, -1, false}, {node(api.TStar), 0, -1, false}, {node(api.TStar), 0, math.MinInt, false}, {node(api.TStar), 0, far, true}, {node(api.TStar), 0, far + 1, false}, {node(api.TStar), 0, math.MaxInt, false},
		{v(0), far, 0, true}, {v(0), far + 1, 0, false}, {node(api.TStar), far + 1, 0, false}, {node(api.TStar), math.MaxInt, 0, false}, {node(api.TStar), -far, 0, true}, {node(api.TStar), -far - 1, 0, false}, {node(api.TStar), math.MinInt, 0, false},
		{v(far), -far, 0, true}, {v(far - 1), -far, 0, false}, {v(far + 1), -far, 0, true}, {v(-1), -1, 0, true}, {v(far), 0, far, true}, {v(far), -1, far, false},
	} {
		got, ok := term.Shift(x.t, x.by, x.from)
		if ok != x.want || !ok && !isZero(got) {
			t.Errorf("Shift(%+v, %d, %d) = %+v, %v", x.t, x.by, x.from, got, ok)
		}
	}
	got, _ := term.Shift(v(far), far, 0)
	if got.N != 2*far {
		t.Errorf("Shift of the greatest variable: %d", got.N)
	}
}

func TestFill(t *testing.T) {
	for _, x := range []struct {
		s    string
		by   []string
		want string
	}{
		{"#0", []string{"star"}, "star"}, {"#1", []string{"star"}, "#0"}, {"#1", []string{"star", "#4"}, "#4"}, {"#9", []string{"star", "#4"}, "#7"}, {"#9", nil, "#9"}, {"?0", []string{"star"}, "?0"},
		{"(pi 0 #0 #2)", []string{"#5"}, "(pi 0 #5 #1)"}, {"(app 0 #0 #1)", []string{"#1", "#0"}, "(app 0 #1 #0)"}, {"(lam 0 #0 #0)", []string{"star"}, "(lam 0 star #0)"}, {"(lam 0 #0 #1)", []string{"(lam 1 #0 #1)"}, "(lam 0 (lam 1 #0 #1) (lam 1 #1 #2))"},
		{"(quo 0 #0 #2 #0 #0 #0)", []string{"#3"}, "(quo 0 #3 #5 #3 #3 #3)"}, {"(elim @a 0 #2 #3 #0 #1)", []string{"#0", "@b"}, "(elim @a 0 #2 #3 #0 @b)"}, {"(out 0 0 #0 #1 #2 #0 #1)", []string{"?7"}, "(out 0 0 ?7 ?7 #1 ?7 #0)"},
		{"(lam 0 unit (lam 0 unit (app 0 #2 #3)))", []string{"(fst #0)"}, "(lam 0 unit (lam 0 unit (app 0 (fst #2) #2)))"},
	} {
		isText(t, "Fill of "+x.s, term.Fill(tm(t, x.s), list(t, x.by...)), x.want)
	}
}

// TestOddVariables looks at terms that have not their form: they have variables as well.
func TestOddVariables(t *testing.T) {
	star := node(api.TStar)
	for _, x := range []struct{ t, want api.Term }{
		{v(-1), v(-1)}, {v(math.MinInt), v(math.MinInt)}, {v(far), v(far - 1)}, {v(far + 1), v(far + 1)}, {v(math.MaxInt), v(math.MaxInt)},
		{node(0, v(0), v(1)), node(0, star, v(0))}, {node(31, v(1), v(1)), node(31, v(0), v(0))}, {node(api.TUnit, v(0)), node(api.TUnit, star)},
		{node(api.TLam, v(1), v(1), v(1)), node(api.TLam, v(0), star, v(0))}, {node(api.TApp, v(0)), node(api.TApp, star)},
		{api.Term{Op: api.TVar, N: 1, L: []api.Term{v(0)}}, api.Term{Op: api.TVar, L: []api.Term{star}}}, {api.Term{Op: api.TVar, L: []api.Term{v(0)}}, star},
		{api.Term{Op: api.TVar, N: -1, L: []api.Term{v(0)}}, api.Term{Op: api.TVar, N: -1, L: []api.Term{star}}},
		{api.Term{Op: api.TVar, N: 1, S: "s", U: []api.Level{lv(-1)}}, api.Term{Op: api.TVar, S: "s", U: []api.Level{lv(-1)}}},
	} {
		if got := term.Fill(x.t, []api.Term{star}); !equal(got, x.want) {
			t.Errorf("Fill(%+v) = %+v", x.t, got)
		}
	}
	for n, want := range map[int]int{-1: 0, math.MinInt: 0, far: far + 1, far + 1: 0, math.MaxInt: 0} {
		if got := term.Free(v(n)); got != want {
			t.Errorf("Free of the variable %d = %d", n, got)
		}
	}
	if n := term.Free(node(api.TVar, v(4))); n != 5 {
		t.Errorf("Free of a part of a variable = %d", n)
	}
}

func TestShiftAndFillAreTheirDefinitions(t *testing.T) {
	trues := 0
	someTerms(4000, anyTerm, func(r *rand.Rand, x api.Term) {
		by, from := r.Intn(7)-3, r.Intn(4)
		want, ok := shifted(x, by, from)
		got, is := term.Shift(x, by, from)
		if is != ok || ok && !equal(got, want) || !ok && !isZero(got) {
			t.Errorf("Shift(%+v, %d, %d) = %+v, %v, want %+v, %v", x, by, from, got, is, want, ok)
		}
		if ok && by < 0 {
			trues++
		}
		l := anyList(r, anyTerm)
		if got, want := term.Fill(x, l), filled(x, l); !equal(got, want) {
			t.Errorf("Fill(%+v, %+v) = %+v, want %+v", x, l, got, want)
		}
	})
	if trues < 300 {
		t.Errorf("only %d terms are shifted back", trues)
	}
}

func TestDeepVariables(t *testing.T) {
	x := v(1<<16 - 1)
	for range 1<<16 - 1 {
		x = node(api.TLam, node(api.TUnit), x)
	}
	if term.Free(x) != 1 {
		t.Errorf("Free = %d", term.Free(x))
	}
	up, ok := term.Shift(x, 5, 0)
	back := term.Fill(up, list(t, "@a", "@a", "@a", "@a", "@a", "(app 0 #0 #2)"))
	if !ok || term.Free(up) != 6 || term.Free(back) != 3 {
		t.Errorf("Free = %d, %d", term.Free(up), term.Free(back))
	}
}

// R4

func TestVariablesAreNewMemory(t *testing.T) {
	someTerms(1500, anyTerm, func(r *rand.Rand, x api.Term) {
		l, kept := anyList(r, anyTerm), clone(x)
		keptList := cloneAll(l)
		args := append(l[:len(l):len(l)], x)
		isNew(t, "Fill", term.Fill(x, l), args...)
		up, _ := term.Shift(x, r.Intn(3)-1, 0)
		isNew(t, "Shift", up, x)
		if !equal(x, kept) || !equal(node(0, l...), node(0, keptList...)) {
			t.Errorf("an argument is changed: %+v", kept)
		}
	})
	twice := tm(t, "(app 0 #0 (app 0 #0 #0))")
	put := tm(t, "(elim @a{u0;u1} 0 (type u1) #0 #1)")
	isNew(t, "Fill", term.Fill(twice, []api.Term{put}), twice, put)
}

// P3.8

func TestShiftOfShift(t *testing.T) {
	someTerms(2000, goodTerm, func(r *rand.Rand, x api.Term) {
		a, b, from := r.Intn(7)-2, r.Intn(7)-2, r.Intn(3)
		none, ok := term.Shift(x, 0, from)
		if !ok || !term.Same(none, x) {
			t.Errorf("Shift of %+v by 0 is %+v", x, none)
		}
		once, ok := term.Shift(x, a, from)
		if !ok {
			return
		}
		twice, ok := term.Shift(once, b, from)
		sum, is := term.Shift(x, a+b, from)
		if ok != is || !term.Same(twice, sum) {
			t.Errorf("Shift of %+v by %d and %d from %d", x, a, b, from)
		}
	})
}

func TestFillOfShiftAndFill(t *testing.T) {
	someTerms(2000, goodTerm, func(r *rand.Rand, x api.Term) {
		l, m := anyList(r, goodTerm), anyList(r, goodTerm)
		up, ok := term.Shift(x, len(l), 0)
		if back := term.Fill(up, l); !ok || !term.Same(back, x) {
			t.Errorf("Fill of %+v, shifted by %d, is %+v", x, len(l), back)
		}
		once := term.Fill(x, l)
		var all []api.Term
		free := max(0, term.Free(x)-len(l))
		for _, y := range l {
			all = append(all, term.Fill(y, m))
			free = max(free, term.Free(y))
		}
		if got, want := term.Fill(once, m), term.Fill(x, append(all, m...)); !term.Same(got, want) {
			t.Errorf("Fill of %+v by %+v and %+v: %+v, %+v", x, l, m, got, want)
		}
		if term.Free(once) > free {
			t.Errorf("Free of Fill of %+v by %+v is %d", x, l, term.Free(once))
		}
	})
}
