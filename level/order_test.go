package level_test

import (
	"math"
	"slices"
	"testing"

	"tenet/api"
	"tenet/level"
)

// P1.3

func TestLeq(t *testing.T) {
	for _, x := range []struct {
		a, b api.Level
		want bool
	}{
		{lv(0), lv(0), true}, {lv(3), lv(4), true}, {lv(4), lv(3), false}, {lv(0), lv(0, 7, 0), true},
		{lv(0, 0, 0), lv(0, 1, 0, 0, 1), true}, {lv(1, 0, 0), lv(0, 0, 0), false}, {lv(1, 0, 0), lv(0, 0, 1), true},
		{lv(0, 0, 0), lv(1000), false}, {lv(0, 0, 0), lv(1000, 1, 1000), false}, {lv(5), lv(0, 0, 5), true}, {lv(6), lv(0, 0, 5), false},
		{lv(5), lv(0, 0, 1, 1, 5), true}, {lv(0, 0, 2), lv(9, 0, 1), false}, {lv(0, 0, 1, 1, 1), lv(0, 1, 1, 0, 1), true},
		{lv(1, 0, 1), lv(0, 0, 1), true}, {lv(0, 0, 1000), lv(1000, 0, 999), false},
	} {
		if level.Leq(x.a, x.b) != x.want {
			t.Errorf("Leq(%+v, %+v) is not %v", x.a, x.b, x.want)
		}
	}
}

func TestEqual(t *testing.T) {
	for _, x := range []struct {
		a, b api.Level
		want bool
	}{
		{lv(0), lv(0), true}, {lv(1, 0, 1), lv(0, 0, 1), true}, {lv(0, 0, 1, 3, 0), lv(1, 3, 0, 0, 1), true},
		{lv(2, 0, 1), lv(0, 0, 1), false}, {lv(0, 0, 0), lv(0, 1, 0), false}, {lv(0, 0, 0), lv(0, 0, 1), false}, {lv(0), lv(0, 0, 0), false},
	} {
		if level.Equal(x.a, x.b) != x.want || level.Equal(x.b, x.a) != x.want {
			t.Errorf("Equal(%+v, %+v) is not %v", x.a, x.b, x.want)
		}
	}
}

func TestInvalidLevelsAreNotCompared(t *testing.T) {
	for _, a := range invalid() {
		b := lv(1000, 0, 1000)
		if level.Leq(a, a) || level.Leq(a, b) || level.Leq(b, a) || level.Leq(lv(0), a) {
			t.Errorf("Leq of %+v", a)
		}
		if level.Equal(a, a) || level.Equal(a, b) || level.Equal(b, a) {
			t.Errorf("Equal of %+v", a)
		}
	}
}

// P1.4

func TestEval(t *testing.T) {
	const most = 1<<31 - 1
	for _, x := range []struct {
		a    api.Level
		vals []int
		want int
		code api.Errno
	}{
		{lv(0), nil, 0, api.OK}, {lv(7), []int{9}, 7, api.OK},
		{lv(3, 0, 1, 2, 0), []int{7, 0, 9}, 9, api.OK}, {lv(3, 0, 1, 2, 0), []int{9, 0, 9}, 10, api.OK},
		{lv(3, 0, 1), []int{-7}, 3, api.OK}, {lv(0, 0, 1), []int{-7}, 1, api.OK}, {lv(0, 0, 5), []int{math.MinInt}, 5, api.OK},
		{lv(0, 4, 2), nil, 2, api.OK}, {lv(0, 2, 2), []int{5, 5}, 2, api.OK},
		{lv(0, 0, 0), []int{most}, most, api.OK}, {lv(0, 0, 1000), []int{most}, most + 1000, api.OK},
		{lv(0, 0, 0), []int{most + 1}, 0, api.ErrRange}, {lv(5, 0, 1000), []int{math.MaxInt}, 0, api.ErrRange},
		{lv(0, 0, 1000, 1, 0), []int{4, most + 1}, 0, api.ErrRange},
		{lv(0, 1, 0), []int{math.MaxInt, 8, math.MaxInt}, 8, api.OK},
		{lv(-1, 0, 0), []int{most + 1}, 0, api.ErrForm},
	} {
		if n, e := level.Eval(x.a, x.vals); n != x.want || e != x.code {
			t.Errorf("Eval(%+v, %v) = %d, %v, want %d, %v", x.a, x.vals, n, e, x.want, x.code)
		}
	}
	for _, a := range invalid() {
		if n, e := level.Eval(a, []int{1}); n != 0 || e != api.ErrForm {
			t.Errorf("Eval(%+v) = %d, %v", a, n, e)
		}
	}
}

func TestVars(t *testing.T) {
	var many api.Level
	for i := range 100000 {
		many.Vars = append(many.Vars, api.LVar{V: -i % 3, Plus: i})
	}
	for _, x := range []struct {
		a    api.Level
		want []int
	}{
		{lv(4), nil}, {lv(0, 3, 0), []int{3}}, {lv(0, 5, 0, 1, 0), []int{1, 5}}, {lv(-3, 5, 0, 1, 0, 5, 2, 1, -9), []int{1, 5}},
		{lv(0, 5000, 0, -7, 0, math.MaxInt, 0, math.MinInt, 0, -7, 1), []int{math.MinInt, -7, 5000, math.MaxInt}}, {many, []int{-2, -1, 0}},
	} {
		if l := level.Vars(x.a); !slices.Equal(l, x.want) {
			t.Errorf("Vars = %v, want %v", l, x.want)
		}
	}
}

// P1.6

func TestOrderIsThatOfAllAssignments(t *testing.T) {
	shown := assignments(3, 0, api.MaxOffset+1)
	others := assignments(3, 0, 1, 2, 5, 1<<31-1)
	for _, a := range small() {
		for _, b := range small() {
			leq := level.Leq(a, b)
			if leq != atMost(t, a, b, shown) {
				t.Errorf("Leq(%+v, %+v) = %v: not as the assignments of 0 and 1001", a, b, leq)
			}
			if leq && !atMost(t, a, b, others) {
				t.Errorf("Leq(%+v, %+v), but not for all assignments", a, b)
			}
			if level.Equal(a, b) != (leq && level.Leq(b, a)) {
				t.Errorf("Equal(%+v, %+v)", a, b)
			}
			x, _ := level.Normal(a)
			y, _ := level.Normal(b)
			if level.Equal(a, b) != same(x, y) {
				t.Errorf("Equal(%+v, %+v) and the canonical forms differ", a, b)
			}
		}
	}
}

// atMost reports whether Eval of a is at most Eval of b for the assignments, and checks Eval by the way.
func atMost(t *testing.T, a, b api.Level, lists [][]int) bool {
	t.Helper()
	for _, vals := range lists {
		m, e := level.Eval(a, vals)
		n, f := level.Eval(b, vals)
		if e != api.OK || f != api.OK || m != valueOf(a, vals) || n != valueOf(b, vals) {
			t.Fatalf("Eval of %+v or %+v for %v: %d, %v, %d, %v", a, b, vals, m, e, n, f)
		}
		if m > n {
			return false
		}
	}
	return true
}

func TestLeqGoesOnAndIsReflexive(t *testing.T) {
	list := small()
	for _, a := range list {
		if !level.Leq(a, a) || !level.Equal(a, a) {
			t.Errorf("%+v is not at most itself", a)
		}
		for _, b := range list {
			if !level.Leq(a, b) {
				continue
			}
			for _, c := range list {
				if level.Leq(b, c) && !level.Leq(a, c) {
					t.Errorf("%+v, %+v, %+v: Leq does not go on", a, b, c)
				}
			}
		}
	}
}

func TestMaxIsTheLeast(t *testing.T) {
	list := small()
	for _, a := range list {
		for _, b := range list {
			m, e := level.Max(a, b)
			if e != api.OK || !canonical(m) || !level.Leq(a, m) || !level.Leq(b, m) {
				t.Fatalf("Max(%+v, %+v) = %+v, %v", a, b, m, e)
			}
			for _, c := range list {
				if level.Leq(m, c) != (level.Leq(a, c) && level.Leq(b, c)) {
					t.Errorf("Max(%+v, %+v) = %+v against %+v", a, b, m, c)
				}
			}
		}
	}
}

func TestSucIsGreater(t *testing.T) {
	for _, a := range small() {
		s, e := level.Suc(a)
		if e != api.OK || !canonical(s) || !level.Leq(a, s) || level.Leq(s, a) {
			t.Errorf("Suc(%+v) = %+v, %v", a, s, e)
		}
		for _, vals := range assignments(3, 0, 1, 4, 1001) {
			if valueOf(s, vals) != valueOf(a, vals)+1 {
				t.Errorf("Suc(%+v) = %+v for %v", a, s, vals)
			}
		}
	}
}

// P1.7

func TestSubstIsEval(t *testing.T) {
	list := small()
	for i, a := range list {
		for j, b := range list {
			by := []api.Level{b, list[(i+j)%len(list)]}
			s, e := level.Subst(a, by)
			if e != api.OK || !canonical(s) {
				t.Fatalf("Subst(%+v, %+v) = %+v, %v", a, by, s, e)
			}
			for _, vals := range assignments(3, 0, 1, 2, 1001) {
				put := []int{valueOf(by[0], vals), valueOf(by[1], vals), vals[2]}
				n, e := level.Eval(s, vals)
				if m, f := level.Eval(a, put); n != m || e != api.OK || f != api.OK {
					t.Errorf("Subst(%+v, %+v) = %+v is %d for %v, want %d", a, by, s, n, vals, m)
				}
			}
		}
	}
}

func TestSubstKeepsLeq(t *testing.T) {
	list := small()
	for i, a := range list {
		for j, b := range list {
			if !level.Leq(a, b) {
				continue
			}
			for k, c := range list {
				by := []api.Level{c, list[(i+j+k)%len(list)], list[(3*k)%len(list)]}
				x, e := level.Subst(a, by)
				y, f := level.Subst(b, by)
				if e != api.OK || f != api.OK || !level.Leq(x, y) {
					t.Errorf("Subst by %+v: %+v, %+v; %+v, %+v", by, a, b, x, y)
				}
			}
		}
	}
}
