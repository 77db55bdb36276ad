package term_test

import (
	"math/rand"
	"testing"

	"tenet/api"
	"tenet/term"
)

// P3.4

func TestSameAndAlike(t *testing.T) {
	for _, x := range []struct {
		a, b        string
		same, alike bool
	}{
		{"#0", "#0", true, true}, {"#0", "#1", false, false}, {"#0", "?0", false, false}, {"@a", "@b", false, false}, {"@a", "@a{0}", false, false}, {"@a{0;u1}", "@a{0;u1}", true, true}, {"@a{0;u1}", "@a{u1;0}", false, false}, {"(type u0)", "(type u0+1)", false, false},
		{"(app 1 #0 (fst #1))", "(app 1 #0 trivial)", false, true}, {"(app 1 #0 #0)", "(app 1 #1 #0)", false, false}, {"(app 0 #0 #0)", "(app 0 #0 #1)", false, false}, {"(app 0 #0 #0)", "(app 1 #0 #0)", false, false},
		{"(fst (app 1 #0 #0))", "(fst (app 1 #0 #1))", false, true}, {"(con @a 0 #0 #1)", "(con @a 1 #0 #1)", false, false}, {"(lam 0 #0 #0)", "(lam 1 #0 #0)", false, false}, {"(elim @a 0 #0 #1 #2)", "(elim @a 0 #0 #1 #1 #2)", false, false},
	} {
		a, b := tm(t, x.a), tm(t, x.b)
		if term.Same(a, b) != x.same || term.Same(b, a) != x.same || term.Alike(a, b) != x.alike || term.Alike(b, a) != x.alike {
			t.Errorf("%s, %s: Same %v, Alike %v", x.a, x.b, term.Same(a, b), term.Alike(a, b))
		}
	}
}

// TestProofPartsDoNotMatter changes each part of each Op.
func TestProofPartsDoNotMatter(t *testing.T) {
	for _, k := range kinds {
		x := tm(t, k.text)
		for i := range x.L {
			y := clone(x)
			y.L[i] = tm(t, "(lam 0 unit #3)")
			if term.Same(x, y) || term.Alike(x, y) != (k.proofs[i] == 'y') {
				t.Errorf("%s, part %d changed: Same %v, Alike %v", k.text, i, term.Same(x, y), term.Alike(x, y))
			}
		}
		for _, y := range []api.Term{{Op: x.Op, N: x.N + 1, S: x.S, U: x.U, L: x.L}, {Op: x.Op, N: x.N, S: "z", U: x.U, L: x.L}, {Op: x.Op + 1, N: x.N, S: x.S, U: x.U, L: x.L}, {Op: x.Op, N: x.N, S: x.S, U: append([]api.Level{lv(7)}, x.U...), L: x.L}, {Op: x.Op, N: x.N, S: x.S, U: x.U, L: append([]api.Term{v(0)}, x.L...)}} {
			if term.Same(x, y) || term.Alike(x, y) {
				t.Errorf("%s and %+v", k.text, y)
			}
		}
	}
	x := api.Term{Op: api.TAbsurd, L: []api.Term{v(0), v(1)}}
	if term.Alike(x, node(api.TAbsurd, v(0))) || term.Alike(x, node(api.TAbsurd, v(0), v(1), v(1))) || !term.Alike(x, node(api.TAbsurd, v(0), api.Term{})) {
		t.Error("proofs that are not there")
	}
	if term.Alike(node(api.TAbsurd, v(0), v(1), v(1)), node(api.TAbsurd, v(0), v(1), v(2))) {
		t.Error("a part too many is no proof")
	}
}

func TestSameLevels(t *testing.T) {
	of := func(l ...api.Level) api.Term { return api.Term{Op: api.TConst, S: "a", U: l} }
	for _, x := range []struct {
		a, b api.Term
		want bool
	}{
		{of(lv(1, 0, 1)), of(lv(0, 0, 1)), true}, {of(lv(2, 0, 1)), of(lv(0, 0, 1)), false}, {of(lv(0, 0, 1, 3, 0)), of(lv(1, 3, 0, 0, 1)), true}, {of(lv(0), lv(1, 0, 1)), of(lv(0), lv(0, 0, 1)), true},
		{of(lv(-1)), of(lv(-1)), true}, {of(lv(-1)), of(lv(0)), false}, {of(lv(-1)), of(lv(-2)), false}, {of(lv(0, 0, 0, 0, 0)), of(lv(0, 0, 0)), false}, {of(lv(0, 0, 0, 0, 0)), of(lv(0, 0, 0, 0, 0)), true}, {of(lv(0, 0, 0, -1, 0)), of(lv(0, -1, 0, 0, 0)), false}, {of(lv(1, 0, 1, 0, 1)), of(lv(0, 0, 1, 0, 1)), false},
		{of(), of([]api.Level{}...), true}, {of(), api.Term{Op: api.TConst, S: "a", U: []api.Level{}, L: []api.Term{}}, true}, {of(lv(3)), of(api.Level{Const: 3, Vars: []api.LVar{}}), true}, {of(lv(-3)), of(api.Level{Const: -3, Vars: []api.LVar{}}), true},
		{api.Term{}, api.Term{U: []api.Level{}, L: []api.Term{}}, true}, {node(99, v(-1)), node(99, v(-1)), true}, {node(99, v(-1)), node(99, v(-2)), false},
	} {
		if term.Same(x.a, x.b) != x.want || term.Same(x.b, x.a) != x.want || term.Alike(x.a, x.b) != x.want {
			t.Errorf("%+v, %+v: Same %v, Alike %v", x.a, x.b, term.Same(x.a, x.b), term.Alike(x.a, x.b))
		}
	}
}

// otherProofs returns a term with other proof parts.
func otherProofs(r *rand.Rand, t api.Term) api.Term {
	out := clone(t)
	for i := range out.L {
		if term.IsProof(t, i) {
			out.L[i] = anyTerm(r, 3)
		} else {
			out.L[i] = otherProofs(r, out.L[i])
		}
	}
	return out
}

// otherTerm returns a term that is near another one.
func otherTerm(r *rand.Rand, t api.Term) api.Term {
	var paths [][]int
	eachNode(t, func(_ api.Term, path []int, _ int) { paths = append(paths, path) })
	out, _ := term.Put(t, paths[r.Intn(len(paths))], anyTerm(r, 2))
	return out
}

// P3.10

func TestSameAndAlikeAreEquivalences(t *testing.T) {
	alike := 0
	someTerms(3000, anyTerm, func(r *rand.Rand, x api.Term) {
		y, z := otherProofs(r, x), otherTerm(r, x)
		if !term.Same(x, x) || !term.Same(x, clone(x)) || !term.Alike(x, x) || !term.Alike(x, y) || !term.Alike(y, x) {
			t.Errorf("%+v is not as %+v", x, y)
		}
		if term.Same(x, z) != term.Same(z, x) || term.Alike(x, z) != term.Alike(z, x) || term.Alike(x, z) != term.Alike(y, z) {
			t.Errorf("%+v, %+v, %+v", x, y, z)
		}
		if term.Same(x, z) && !term.Alike(x, z) {
			t.Errorf("%+v and %+v are the same, but not alike", x, z)
		}
		if term.Alike(x, z) && !term.Same(x, z) {
			alike++
		}
	})
	if alike < 30 {
		t.Errorf("only %d terms are alike", alike)
	}
}

func TestAlikeGoesAlong(t *testing.T) {
	someTerms(3000, anyTerm, func(r *rand.Rand, x api.Term) {
		y, l := otherProofs(r, x), anyList(r, anyTerm)
		var m []api.Term
		for _, a := range l {
			m = append(m, otherProofs(r, a))
		}
		if !term.Alike(term.Fill(x, l), term.Fill(y, m)) {
			t.Errorf("Fill of %+v by %+v, and of %+v by %+v", x, l, y, m)
		}
		a := anyTerm(r, 2)
		b := otherProofs(r, a)
		eachNode(x, func(_ api.Term, path []int, _ int) {
			p, e := term.Put(x, path, a)
			q, f := term.Put(y, path, b)
			if e == api.OK && f == api.OK && !term.Alike(p, q) {
				t.Errorf("Put at %v in %+v and %+v", path, x, y)
			}
		})
	})
}
