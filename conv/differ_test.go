package conv_test

import (
	"math/rand"
	"slices"
	"testing"

	"tenet/api"
	"tenet/conv"
	"tenet/term"
)

// P6.3, P6.7

func TestDiffer(t *testing.T) {
	for _, x := range []struct {
		a, b string
		want []int
	}{
		{"star", "star", nil},
		{"star", "unit", []int{-1}},
		{"#0", "#1", []int{-1}},
		{"@f", "@g", []int{-1}},
		{"@f{u0}", "@f{u1}", []int{-1}},
		{"@f{u0}", "@f", []int{-1}},
		{"(type u0)", "(type u0+1)", []int{-1}},
		{"(type max(u0,u1))", "(type max(u0,u1))", nil},
		{"(pi 0 #0 #0)", "(pi 1 #0 #0)", []int{-1}},
		{"(pi 0 #0 #0)", "(sig 0 #0 #0)", []int{-1}},
		{"(pi 0 #0 #0)", "(pi 0 #1 #1)", []int{0}},
		{"(pi 0 #0 #0)", "(pi 0 #0 #1)", []int{1}},
		{"(pi 0 (fst #0) (fst #0))", "(pi 0 (fst #1) (snd #0))", []int{0, 0}}, // the first one in the order of nodes
		{"(pi 0 (fst #0) (fst #0))", "(pi 0 (fst #0) (snd #0))", []int{1}},
		{"(pi 0 (fst (snd #0)) unit)", "(pi 0 (snd (snd #1)) star)", []int{0}}, // a node before its parts
		{"(elim @Nat 0 unit star star star #0)", "(elim @Nat 0 unit star star star star #0)", []int{-1}},
		{"(elim @Nat 0 unit star star star #0)", "(elim @Nat 0 unit star unit star #1)", []int{2}},
		{"(eq 0 NAT #0 #1)", "(eq 1 NAT #0 #1)", []int{-1}},
		{"(con @Nat 1 star #0)", "(con @Nat 1 #0 #0)", []int{0}}, // a parameter is no proof
		// Proof parts are left out.
		{"(app 1 #1 #0)", "(app 1 #1 #2)", nil},
		{"(app 0 #1 #0)", "(app 0 #1 #2)", []int{1}},
		{"(app 1 #1 #0)", "(app 1 #2 #0)", []int{0}},
		{"(pair 1 unit unit #0 #0)", "(pair 1 unit unit #1 #1)", []int{3}},
		{"(pair 2 unit unit #0 #0)", "(pair 2 unit unit #1 #1)", []int{2}},
		{"(pair 3 unit unit #0 #0)", "(pair 3 unit unit #1 #1)", nil},
		{"(absurd 0 unit #0)", "(absurd 0 unit #1)", nil},
		{"(absurd 0 unit #0)", "(absurd 0 star #0)", []int{0}},
		{"(cast 0 #0 #1 #2 #3)", "(cast 0 #0 #1 #3 #3)", nil},
		{"(cast 0 #0 #1 #2 #3)", "(cast 0 #0 #1 #3 #4)", []int{3}},
		{"(quo 0 unit #0 #1 #2 #3)", "(quo 0 unit #0 #4 #5 #6)", nil},
		{"(quo 0 unit #0 #1 #2 #3)", "(quo 0 unit #1 #1 #2 #3)", []int{1}},
		{"(out 0 0 #0 #1 #2 #3 #4)", "(out 0 0 #0 #1 #2 #7 #4)", nil},
		{"(out 0 0 #0 #1 #2 #3 #4)", "(out 0 0 #0 #1 #2 #7 #5)", []int{4}},
		{"(coh 0 #0 #1 #2)", "(coh 0 #0 #7 #2)", nil},
		{"(subst 0 #0 #1 #2 #3 #4 #5)", "(subst 0 #0 #1 #2 #3 #6 #7)", nil},
		{"(subst 0 #0 #1 #2 #3 #4 #5)", "(subst 0 #0 #1 #2 #4 #4 #5)", []int{3}},
		{"(fst (app 1 #0 (fst #1)))", "(fst (app 1 #1 (snd #1)))", []int{0, 0}},
	} {
		for range 2 {
			got := conv.Differ(basic(), parse(x.a), parse(x.b))
			if !slices.Equal(got, x.want) || (got == nil) != (x.want == nil) {
				t.Errorf("%s and %s: %v, want %v", x.a, x.b, got, x.want)
			}
			x.a, x.b = x.b, x.a
		}
	}
}

// Differ takes any terms, and levels as Same does.
func TestDifferAnyTerms(t *testing.T) {
	bad := lv(-1)
	for _, x := range []struct {
		a, b api.Term
		want []int
	}{
		{api.Term{}, api.Term{}, nil},
		{api.Term{}, api.Term{N: 1}, []int{-1}},
		{node(-3, variable(-7)), node(-3, variable(-7)), nil},
		{node(-3, variable(-7)), node(-3, variable(-8)), []int{0}},
		{node(99), node(99, variable(0)), []int{-1}},
		{node(api.TUnit, variable(0), variable(1)), node(api.TUnit, variable(0), variable(2)), []int{1}},
		{node(api.TApp), node(api.TApp), nil},
		{marked(api.TApp, 1, variable(0)), marked(api.TApp, 1, variable(1)), []int{0}},
		{marked(api.TApp, 5, variable(0), variable(1)), marked(api.TApp, 5, variable(0), variable(2)), []int{1}},
		{universe(lv(2, 0, 5)), universe(lv(0, 0, 5)), nil},
		{universe(lv(0, 1, 0, 0, 2)), universe(lv(0, 0, 2, 1, 0)), nil},
		{universe(bad), universe(bad), nil},
		{universe(bad), universe(lv(0)), []int{-1}},
		{api.Term{Op: api.TUnit, U: []api.Level{lv(1)}}, api.Term{Op: api.TUnit}, []int{-1}},
		{api.Term{Op: api.TUnit, S: "a"}, api.Term{Op: api.TUnit, S: "b"}, []int{-1}},
		{api.Term{Op: api.TUnit, L: []api.Term{}, U: []api.Level{}}, api.Term{Op: api.TUnit}, nil},
	} {
		got := conv.Differ(api.Table{}, x.a, x.b)
		if !slices.Equal(got, x.want) || term.Alike(x.a, x.b) != (x.want == nil) {
			t.Errorf("%+v and %+v: %v, want %v", x.a, x.b, got, x.want)
		}
	}
}

// loose makes terms that need have neither form nor sense, over few names and numbers.
func loose(r *rand.Rand, n int) api.Term {
	t := api.Term{Op: r.Intn(33) - 1, N: r.Intn(3), S: []string{"", "", "Nat", "plus"}[r.Intn(4)]}
	if r.Intn(3) == 0 {
		t.U = []api.Level{lv(r.Intn(2), r.Intn(2), r.Intn(2))}
	}
	for n > 0 && r.Intn(4) > 0 && len(t.L) < 6 {
		t.L = append(t.L, loose(r, n-1))
	}
	return t
}

// put returns a term with another node at a random place.
func put(r *rand.Rand, t, s api.Term) api.Term {
	if len(t.L) == 0 || r.Intn(4) == 0 {
		return s
	}
	i := r.Intn(len(t.L))
	out, _ := term.Put(t, []int{i}, put(r, t.L[i], s))
	return out
}

// TestDifferIsAlike is P6.7: Differ is nil exactly for terms that are Alike, and otherwise leads to the first difference.
func TestDifferIsAlike(t *testing.T) {
	r := rand.New(rand.NewSource(5))
	alike := 0
	for range 20000 {
		a := loose(r, 4)
		b := a
		for range r.Intn(3) {
			b = put(r, b, loose(r, 1))
		}
		path := conv.Differ(api.Table{}, a, b)
		if (path == nil) != term.Alike(a, b) {
			t.Fatalf("%+v and %+v: %v", a, b, path)
		}
		if path == nil {
			alike++
			continue
		}
		if back := conv.Differ(api.Table{}, b, a); !slices.Equal(path, back) {
			t.Fatalf("%+v and %+v: %v, and the other way round %v", a, b, path, back)
		}
		if path[0] == -1 {
			path = nil
		}
		firstDifference(t, a, b, path)
	}
	if alike < 5000 || alike > 16000 {
		t.Errorf("%d terms of 20000 are alike", alike)
	}
}

// firstDifference checks that two terms agree everywhere before a path, and differ there.
func firstDifference(t *testing.T, a, b api.Term, path []int) {
	t.Helper()
	x, y := a, b
	for _, i := range path {
		bare := func(t api.Term) api.Term { t.L = make([]api.Term, len(t.L)); return t }
		if !term.Same(bare(x), bare(y)) || term.IsProof(x, i) {
			t.Fatalf("%+v and %+v: the path %v is not the first one", a, b, path)
		}
		for j := range i {
			if !term.IsProof(x, j) && !term.Alike(x.L[j], y.L[j]) {
				t.Fatalf("%+v and %+v: the path %v is not the first one", a, b, path)
			}
		}
		x, y = x.L[i], y.L[i]
	}
	if len(x.L) == len(y.L) {
		x.L, y.L = make([]api.Term, len(x.L)), make([]api.Term, len(x.L))
		if term.Same(x, y) {
			t.Fatalf("%+v and %+v agree at %v", a, b, path)
		}
	}
}
