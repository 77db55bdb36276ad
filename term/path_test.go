package term_test

import (
	"math"
	"math/rand"
	"slices"
	"testing"

	"tenet/api"
	"tenet/term"
)

// P3.5

func TestAt(t *testing.T) {
	x := tm(t, "(lam 0 unit (pair 0 unit #1 #0 (elim @a 0 #1 (quo 0 #2 #3 #0 #0 #0) #0 (fst #2))))")
	for _, y := range []struct {
		path  []int
		want  string
		bound int
	}{
		{[]int{0}, "unit", 0}, {[]int{1, 0}, "unit", 1}, {[]int{1, 1}, "#1", 2}, {[]int{1, 2}, "#0", 1}, {[]int{1, 3, 0}, "#1", 3}, {[]int{1, 3, 1, 0}, "#2", 4}, {[]int{1, 3, 1, 1}, "#3", 6}, {[]int{1, 3, 2}, "#0", 1}, {[]int{1, 3, 3}, "(fst #2)", 1}, {[]int{1, 3, 3, 0}, "#2", 1},
	} {
		s, n, e := term.At(x, y.path)
		if n != y.bound || e != api.OK {
			t.Errorf("At %v: %d, %v", y.path, n, e)
		}
		isText(t, "At", s, y.want)
	}
	for _, path := range [][]int{nil, {}} {
		if s, n, e := term.At(x, path); !equal(s, x) || n != 0 || e != api.OK {
			t.Errorf("At the root: %+v, %d, %v", s, n, e)
		}
	}
	odd := node(0, v(1), node(api.TLam, v(2), v(3), v(4)))
	for i, want := range []int{0, 1, 0} {
		if s, n, e := term.At(odd, []int{1, i}); s.N != i+2 || n != want || e != api.OK {
			t.Errorf("At %d of an odd term: %+v, %d, %v", i, s, n, e)
		}
	}
}

func TestPut(t *testing.T) {
	for _, x := range []struct {
		s    string
		path []int
		put  string
		want string
	}{
		{"(lam 0 unit #0)", nil, "#4", "#4"}, {"(lam 0 unit #0)", []int{1}, "#4", "(lam 0 unit #4)"}, {"(lam 0 unit (pair 0 unit #1 #0 (fst #2)))", []int{1, 3, 0}, "star", "(lam 0 unit (pair 0 unit #1 #0 (fst star)))"},
		{"(app 0 @f{u0} (app 1 #0 #1))", []int{0}, "(lam 0 #0 #1)", "(app 0 (lam 0 #0 #1) (app 1 #0 #1))"}, {"(elim @a 0 #1 (quo 0 #2 #3 #0 #0 #0) #0 #2)", []int{1, 1}, "#0", "(elim @a 0 #1 (quo 0 #2 #0 #0 #0 #0) #0 #2)"},
	} {
		got, e := term.Put(tm(t, x.s), x.path, tm(t, x.put))
		if e != api.OK {
			t.Errorf("Put at %v of %s: %v", x.path, x.s, e)
		}
		isText(t, "Put", got, x.want)
	}
}

func TestNowhere(t *testing.T) {
	x := tm(t, "(lam 0 unit (pair 0 unit #1 #0 (fst #2)))")
	for _, path := range [][]int{{2}, {-1}, {0, 0}, {1, 4}, {1, -1}, {1, 3, 1}, {1, 3, 0, 0}, {math.MaxInt}, {math.MinInt}, {1, math.MaxInt}, {5, 0}, slices.Repeat([]int{1}, 100000)} {
		if s, n, e := term.At(x, path); e != api.ErrPath || n != 0 || !isZero(s) {
			t.Errorf("At %v: %+v, %d, %v", path, s, n, e)
		}
		if s, e := term.Put(x, path, x); e != api.ErrPath || !isZero(s) {
			t.Errorf("Put at %v: %+v, %v", path, s, e)
		}
	}
}

func TestDeepPath(t *testing.T) {
	path := make([]int, 1<<16-1)
	x := deep(1<<16-1, v(7))
	if s, n, e := term.At(x, path); s.N != 7 || n != 0 || e != api.OK {
		t.Errorf("At: %+v, %d, %v", s, n, e)
	}
	y, e := term.Put(x, path, v(8))
	if s, _, f := term.At(y, path); s.N != 8 || e != api.OK || f != api.OK {
		t.Errorf("Put: %v, %v", e, f)
	}
}

// R4 and P3.10

func TestPathsOfAnyTerm(t *testing.T) {
	someTerms(1500, anyTerm, func(r *rand.Rand, x api.Term) {
		kept, put := clone(x), anyTerm(r, 2)
		keptPut := clone(put)
		eachNode(x, func(part api.Term, path []int, bound int) {
			s, n, e := term.At(x, path)
			if !equal(s, part) || n != bound || e != api.OK {
				t.Errorf("At %v of %+v: %+v, %d, %v", path, x, s, n, e)
			}
			isNew(t, "At", s, x)
			if same, e := term.Put(x, path, s); !equal(same, kept) || e != api.OK {
				t.Errorf("Put of what stands at %v in %+v: %+v, %v", path, x, same, e)
			}
			y, e := term.Put(x, path, put)
			if there, _, f := term.At(y, path); !equal(there, put) || e != api.OK || f != api.OK {
				t.Errorf("Put at %v in %+v: %+v, %v", path, x, there, e)
			}
			isNew(t, "Put", y, x, put)
		})
		if !equal(x, kept) || !equal(put, keptPut) {
			t.Errorf("an argument is changed: %+v", kept)
		}
	})
}
