package term_test

import (
	"math"
	"math/rand"
	"slices"
	"testing"

	"tenet/api"
	"tenet/level"
	"tenet/term"
)

// P3.6

func TestLevelsNamesHoles(t *testing.T) {
	for _, x := range []struct {
		s      string
		levels []int
		names  []string
		holes  []int
	}{
		{"star", nil, nil, nil}, {"@a", nil, []string{"a"}, nil}, {"?0", nil, nil, []int{0}}, {"(type max(u7,u1100+2,3))", nil, nil, nil},
		{"(app 0 @f{u3;u1} (app 0 (type u1+1) (con @N{u0} 0 ?4 ?2)))", []int{0, 1, 3}, []string{"f", "N"}, []int{2, 4}},
		{"(app 0 (app 0 @b @a) (app 0 @b @c))", nil, []string{"b", "a", "c"}, nil},
		{"(elim @e{u9} 0 @d{u8} (data @c{u7} @b) (con @a 0 star @z) @e)", []int{7, 8, 9}, []string{"e", "d", "c", "b", "a", "z"}, nil},
		{"(eq u5 (type u6) (refl u4 ?9 ?7) (cast u3 ?9 ?8 ?2000 ?0))", []int{3, 4, 5, 6}, nil, []int{0, 7, 8, 9, 2000}},
		{"(subst u6 star (coh u5 star star star) (quo u4 star star star star star) (out u3 0 star star star star star) star star)", []int{3, 4, 5, 6}, nil, nil},
	} {
		y := tm(t, x.s)
		if x.s == "(type max(u7,u1100+2,3))" {
			x.levels = []int{7, 1100}
		}
		if l := term.Levels(y); !slices.Equal(l, x.levels) {
			t.Errorf("Levels(%s) = %v", x.s, l)
		}
		if l := term.Names(y); !slices.Equal(l, x.names) {
			t.Errorf("Names(%s) = %v", x.s, l)
		}
		if l := term.Holes(y); !slices.Equal(l, x.holes) {
			t.Errorf("Holes(%s) = %v", x.s, l)
		}
	}
}

// TestInsideOddTerms looks at terms that have not their form.
func TestInsideOddTerms(t *testing.T) {
	x := api.Term{Op: 99, N: 5, S: "no", U: []api.Level{lv(-1, 4000, 0, -2, 0), lv(0, 1, 0, 1, 0)}, L: []api.Term{
		{Op: api.TVar, S: "no", U: []api.Level{lv(0, 7, 0)}, L: []api.Term{{Op: api.THole, N: -3}, {Op: api.THole, N: math.MaxInt}}},
		{Op: api.TConst, S: "1 2"}, {Op: api.TType, S: "no"}, {Op: api.TElim}, {Op: api.TData, S: "b"}, {Op: api.TCon, S: "a", L: []api.Term{{Op: api.TConst, S: "b"}}}, {Op: -1, S: "no"}, {Op: api.TProof, S: "no"},
	}}
	if l := term.Levels(x); !slices.Equal(l, []int{-2, 1, 7, 4000}) {
		t.Errorf("Levels = %v", l)
	}
	if l := term.Names(x); !slices.Equal(l, []string{"1 2", "", "b", "a"}) {
		t.Errorf("Names = %q", l)
	}
	if l := term.Holes(x); !slices.Equal(l, []int{-3, math.MaxInt}) {
		t.Errorf("Holes = %v", l)
	}
}

func TestSetLevels(t *testing.T) {
	for _, x := range []struct {
		s    string
		by   []api.Level
		want string
	}{
		{"star", []api.Level{lv(1)}, "star"}, {"#0", []api.Level{lv(1)}, "#0"}, {"(type u0)", nil, "(type u0)"}, {"(type u0+1)", []api.Level{lv(3, 1, 0)}, "(type max(u1+1,4))"}, {"(type u1)", []api.Level{lv(3)}, "(type u1)"},
		{"(app 0 @f{u3;u1} (app 0 (type u1+1) (con @N{u0} 0 ?4 ?2)))", []api.Level{lv(0), lv(2)}, "(app 0 @f{u3;2} (app 0 (type 3) (con @N{0} 0 ?4 ?2)))"},
		{"(elim @e{u0;u1} 0 (eq u1 #0 #1 #2) (data @d{u1} #0) (quo u0 #0 #1 #2 #3 #4) @c{max(u0,u1)})", []api.Level{lv(0, 1, 0), lv(0, 0, 0)}, "(elim @e{u1;u0} 0 (eq u0 #0 #1 #2) (data @d{u0} #0) (quo u1 #0 #1 #2 #3 #4) @c{max(u0,u1)})"},
	} {
		y := tm(t, x.s)
		got, e := term.SetLevels(y, x.by)
		if e != api.OK {
			t.Errorf("SetLevels(%s): %v", x.s, e)
		}
		isText(t, "SetLevels of "+x.s, got, x.want)
		isNew(t, "SetLevels", got, y)
	}
	odd := api.Term{Op: 99, N: 5, S: "s", U: []api.Level{lv(2, 0, 2), lv(1, 1, 0, 0, 0)}, L: []api.Term{{Op: api.TUnit, U: []api.Level{lv(0, 0, 4)}}}}
	got, e := term.SetLevels(odd, []api.Level{lv(1)})
	if want := (api.Term{Op: 99, N: 5, S: "s", U: []api.Level{lv(3), lv(1, 1, 0)}, L: []api.Term{{Op: api.TUnit, U: []api.Level{lv(5)}}}}); !equal(got, want) || e != api.OK {
		t.Errorf("SetLevels of an odd term: %+v, %v", got, e)
	}
}

func TestSetLevelsErrors(t *testing.T) {
	by := []api.Level{lv(-1), lv(1000), lv(0, 0, 5)}
	for _, x := range []struct {
		s    string
		code api.Errno
	}{
		{"(type u0)", api.ErrForm}, {"(type u1+1)", api.ErrLimit}, {"(type max(u0,u1+1))", api.ErrForm}, {"@f{u0;u1+1}", api.ErrForm}, {"@f{u1+1;u0}", api.ErrLimit}, {"@f{u2;u1+1;u0}", api.ErrLimit},
		{"(app 0 (type u0) (type u1+1))", api.ErrForm}, {"(app 0 (type u1+1) (type u0))", api.ErrLimit}, {"(eq u0 (type u1+1) #0 #0)", api.ErrForm}, {"(eq u1+1 (type u0) #0 #0)", api.ErrLimit},
		{"(app 0 (fst (fst (type u1+1))) (type u0))", api.ErrLimit}, {"(app 0 (type u2) (pair 0 #0 #0 (type u1+1) (type u0)))", api.ErrLimit}, {"(app 0 (type u2) (pair 0 #0 (type u0) (type u1+1) #0))", api.ErrForm},
	} {
		if got, e := term.SetLevels(tm(t, x.s), by); e != x.code || !isZero(got) {
			t.Errorf("SetLevels(%s) = %+v, %v, want %v", x.s, got, e, x.code)
		}
	}
	bad := api.Term{Op: api.TUnit, U: []api.Level{lv(0), lv(-1)}}
	if got, e := term.SetLevels(bad, nil); e != api.ErrForm || !isZero(got) {
		t.Errorf("SetLevels of a level that is none: %+v, %v", got, e)
	}
}

// TestSetLevelsIsSubst compares with level.Subst, node by node.
func TestSetLevelsIsSubst(t *testing.T) {
	by := []api.Level{lv(0, 2, 1), lv(999), lv(2, 0, 0, 1, 5)}
	codes := map[api.Errno]int{}
	someTerms(3000, anyTerm, func(_ *rand.Rand, x api.Term) {
		kept, code := clone(x), api.OK
		var want [][]api.Level
		eachNode(x, func(part api.Term, _ []int, _ int) {
			var row []api.Level
			for _, a := range part.U {
				s, e := level.Subst(a, by)
				row = append(row, s)
				if code == api.OK {
					code = e
				}
			}
			want = append(want, row)
		})
		got, e := term.SetLevels(x, by)
		codes[e]++
		if e != code || e != api.OK && !isZero(got) || !equal(x, kept) {
			t.Errorf("SetLevels(%+v) = %+v, %v, want %v", x, got, e, code)
		}
		i := 0
		eachNode(got, func(part api.Term, _ []int, _ int) {
			if e == api.OK && !equal(api.Term{U: part.U}, api.Term{U: want[i]}) {
				t.Errorf("SetLevels(%+v) = %+v", x, got)
			}
			i++
		})
	})
	if codes[api.OK] < 500 || codes[api.ErrForm] < 50 || codes[api.ErrLimit] < 50 {
		t.Errorf("too few terms of one kind: %v", codes)
	}
}

// P3.11

func TestSetLevelsByThemselves(t *testing.T) {
	by := []api.Level{lv(0, 0, 0), lv(0, 1, 0), lv(0, 2, 0)}
	someTerms(2000, goodTerm, func(_ *rand.Rand, x api.Term) {
		for _, l := range [][]api.Level{nil, by[:1], by} {
			if got, e := term.SetLevels(x, l); !equal(got, x) || e != api.OK {
				t.Errorf("SetLevels(%+v) = %+v, %v", x, got, e)
			}
		}
	})
}

func TestSetLevelsKeepsNamesAndFree(t *testing.T) {
	someTerms(2000, goodTerm, func(_ *rand.Rand, x api.Term) {
		got, e := term.SetLevels(x, []api.Level{lv(4), lv(0, 5, 1, 3, 0)})
		if e != api.OK || !slices.Equal(term.Names(got), term.Names(x)) || term.Free(got) != term.Free(x) || !slices.Equal(term.Holes(got), term.Holes(x)) {
			t.Errorf("SetLevels(%+v) = %+v, %v", x, got, e)
		}
	})
}
