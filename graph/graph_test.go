package graph_test

import (
	"math"
	"math/rand"
	"slices"
	"testing"

	"tenet/api"
	"tenet/graph"
)

// P2.1

func TestValid(t *testing.T) {
	full := api.Level{Const: 1000}
	for v := range 8 {
		full.Vars = append(full.Vars, api.LVar{V: 1199 - v, Plus: 1000})
	}
	for _, x := range []struct {
		n    int
		l    []api.LCon
		want bool
	}{
		{0, nil, true}, {1200, nil, true}, {-1, nil, false}, {1201, nil, false}, {math.MinInt, nil, false}, {math.MaxInt, nil, false},
		{0, []api.LCon{con(lv(7), lv(3))}, true}, {0, []api.LCon{con(lv(0, 0, 0), lv(3))}, false}, {0, []api.LCon{con(lv(0), lv(0, 0, 0))}, false},
		{1, []api.LCon{con(lv(3, 0, 5), lv(0, 0, 1000))}, true}, {1, []api.LCon{con(lv(1000, 0, 1000), lv(1000))}, true},
		{1200, []api.LCon{con(full, lv(0, 0, 0))}, true}, {1199, []api.LCon{con(full, lv(0, 0, 0))}, false},
		{2, slices.Repeat([]api.LCon{step(0, 0, 1)}, 3000), true},
	} {
		if graph.Valid(x.n, x.l) != x.want {
			t.Errorf("Valid(%d, %d constraints %.3v) is not %v", x.n, len(x.l), x.l[:min(1, len(x.l))], x.want)
		}
	}
	for _, l := range notSystems() {
		if graph.Valid(2, l) {
			t.Errorf("Valid(2, %.3v)", l[:min(3, len(l))])
		}
	}
}

func TestSolve(t *testing.T) {
	for _, x := range []struct {
		n    int
		l    []api.LCon
		want []int
		e    api.Errno
	}{
		{0, nil, nil, api.OK}, {2, nil, []int{0, 0}, api.OK}, {0, []api.LCon{con(lv(3), lv(3))}, nil, api.OK}, {0, []api.LCon{con(lv(4), lv(3))}, nil, api.ErrCircle},
		{2, []api.LCon{con(lv(0, 0, 5), lv(0, 1, 3))}, []int{0, 2}, api.OK}, {2, []api.LCon{con(lv(0, 0, 3), lv(0, 1, 5))}, []int{0, 0}, api.OK},
		{3, []api.LCon{con(lv(9, 0, 4, 1, 1), lv(0, 2, 2)), floor(0, 1), floor(1, 9)}, []int{1, 9, 8}, api.OK},
		{1, []api.LCon{con(lv(0, 0, 2), lv(0, 0, 2))}, []int{0}, api.OK}, {1, []api.LCon{con(lv(0, 0, 2), lv(0, 0, 1))}, nil, api.ErrCircle},
		{2, []api.LCon{step(0, 1, 1), con(lv(0, 1, 0), lv(0, 0, 1))}, []int{0, 1}, api.OK}, {2, []api.LCon{step(0, 2, 1), con(lv(0, 1, 0), lv(0, 0, 1))}, nil, api.ErrCircle},
		{2, []api.LCon{floor(0, 4), step(0, 1, 1), roof(1, 5)}, []int{4, 5}, api.OK}, {2, []api.LCon{floor(0, 4), step(0, 1, 1), roof(1, 4)}, nil, api.ErrCircle},
		{1, []api.LCon{con(lv(0, 0, 1), lv(0))}, nil, api.ErrCircle}, {1, []api.LCon{roof(0, 0)}, []int{0}, api.OK},
		{1, []api.LCon{con(lv(1000), lv(0, 0, 1000))}, []int{0}, api.OK}, {1, []api.LCon{floor(0, 1000), con(lv(0, 0, 1000), lv(1000))}, nil, api.ErrCircle},
	} {
		got, e := graph.Solve(x.n, x.l)
		if e != x.e || !slices.Equal(got, x.want) {
			t.Errorf("Solve(%d, %v) = %v, %v, want %v, %v", x.n, x.l, got, e, x.want, x.e)
		}
	}
}

func TestSolveOfTheGreatestSystem(t *testing.T) {
	var l []api.LCon
	for v := 1198; v >= 0; v-- {
		l = append(l, step(v, 1000, v+1))
	}
	for len(l) < 3000 {
		l = append(l, floor(0, len(l)%1000))
	}
	got, e := graph.Solve(1200, l)
	if e != api.OK || len(got) != 1200 || got[0] != 999 || got[1199] != 999+1199*1000 {
		t.Fatalf("Solve: %d numbers, %v", len(got), e)
	}
	l[2999] = step(1199, 0, 0)
	if got, e := graph.Solve(1200, l); e != api.ErrCircle || len(got) != 0 {
		t.Errorf("Solve of the closed chain: %v, %v", got, e)
	}
}

func TestHolds(t *testing.T) {
	l := []api.LCon{con(lv(2, 0, 1), lv(0, 1, 1)), roof(1, 6), con(lv(0, 0, 0), lv(0, 1, 0))}
	const most = 1 << 40
	for _, x := range []struct {
		vals []int
		want int
		e    api.Errno
	}{
		{[]int{0, 1}, -1, api.OK}, {[]int{0, 0}, 0, api.OK}, {[]int{3, 2}, 0, api.OK}, {[]int{3, 3}, -1, api.OK}, {[]int{0, 7}, 1, api.OK}, {[]int{7, 7}, 1, api.OK}, {[]int{6, 6}, -1, api.OK},
		{[]int{most, most}, 1, api.OK}, {[]int{most, 0}, 0, api.OK},
		{nil, 0, api.ErrRange}, {[]int{0}, 0, api.ErrRange}, {[]int{0, 1, 2}, 0, api.ErrRange}, {[]int{-1, 1}, 0, api.ErrRange}, {[]int{0, most + 1}, 0, api.ErrRange}, {[]int{math.MaxInt, math.MinInt}, 0, api.ErrRange},
	} {
		if got, e := graph.Holds(2, l, x.vals); got != x.want || e != x.e {
			t.Errorf("Holds(%v) = %d, %v, want %d, %v", x.vals, got, e, x.want, x.e)
		}
	}
	if got, e := graph.Holds(2, l[2:], []int{most, most - 1}); got != 0 || e != api.OK {
		t.Errorf("Holds of the greatest numbers = %d, %v", got, e)
	}
	if got, e := graph.Holds(0, []api.LCon{con(lv(1), lv(1)), con(lv(1), lv(0))}, nil); got != 1 || e != api.OK {
		t.Errorf("Holds of no numbers = %d, %v", got, e)
	}
}

// P2.5

func TestExtend(t *testing.T) {
	l := []api.LCon{step(0, 1, 1), floor(0, 2)}
	circle := []api.LCon{step(0, 1, 0)}
	for _, x := range []struct {
		l    []api.LCon
		sol  []int
		more []api.LCon
		want []int
		e    api.Errno
	}{
		{l, []int{2, 3}, nil, []int{2, 3}, api.OK}, {nil, []int{0, 0}, l, []int{2, 3}, api.OK}, {l, []int{2, 3}, []api.LCon{floor(1, 1)}, []int{2, 3}, api.OK},
		{l, []int{2, 3}, []api.LCon{floor(0, 5), roof(1, 6)}, []int{5, 6}, api.OK}, {l, []int{2, 3}, []api.LCon{floor(0, 5), roof(1, 5)}, nil, api.ErrCircle},
		{l, []int{2, 3}, []api.LCon{step(1, 0, 0)}, nil, api.ErrCircle}, {l, []int{2, 3}, []api.LCon{con(lv(1), lv(0))}, nil, api.ErrCircle},
		{l, []int{3, 4}, nil, nil, api.ErrRange}, {l, []int{2}, nil, nil, api.ErrRange}, {l, []int{2, 3, 0}, nil, nil, api.ErrRange}, {l, nil, circle, nil, api.ErrRange}, {l, []int{1, 2}, circle, nil, api.ErrRange}, {l, []int{-2, math.MaxInt}, nil, nil, api.ErrRange},
		{circle, nil, nil, nil, api.ErrRange}, {circle, []int{0, 0}, circle, nil, api.ErrRange},
	} {
		got, e := graph.Extend(2, x.l, x.sol, x.more)
		if e != x.e || !slices.Equal(got, x.want) {
			t.Errorf("Extend(%v, %v, %v) = %v, %v, want %v, %v", x.l, x.sol, x.more, got, e, x.want, x.e)
		}
	}
	if got, e := graph.Extend(0, nil, nil, nil); len(got) != 0 || e != api.OK {
		t.Errorf("Extend of nothing = %v, %v", got, e)
	}
}

// The constraints of a call count together.
func TestExtendOfTooMany(t *testing.T) {
	l := slices.Repeat([]api.LCon{step(0, 0, 1)}, 3000)
	for _, k := range []int{0, 1, 1500, 2999, 3000} {
		if got, e := graph.Extend(2, l[:k], []int{0, 0}, l[k:]); e != api.OK || !slices.Equal(got, []int{0, 0}) {
			t.Errorf("Extend of %d of 3000: %v, %v", k, got, e)
		}
		if got, e := graph.Extend(2, l[:k], []int{5, 0}, l[k-min(k, 1):]); e == api.OK || (e == api.ErrForm) != (k > 0) || len(got) != 0 {
			t.Errorf("Extend of %d and %d: %v, %v", k, 3001-k, got, e)
		}
	}
}

// Systems that are none are refused before all else, and nothing is returned with an error.
func TestErrForm(t *testing.T) {
	good := []api.LCon{step(0, 1, 1)}
	test := func(n int, l []api.LCon) {
		t.Helper()
		sol, e1 := graph.Solve(n, l)
		k, e2 := graph.Holds(n, l, nil)
		why, is, e3 := graph.Explain(n, l)
		follows, e4 := graph.Follows(n, l, con(lv(0), lv(0)))
		left, e5 := graph.Minimal(n, l)
		sets, e6 := graph.Classes(n, l)
		ext, e7 := graph.Extend(n, l, nil, nil)
		b, has, e8 := graph.Bound(n, l, -1)
		for i, e := range []api.Errno{e1, e2, e3, e4, e5, e6, e7, e8} {
			if e != api.ErrForm {
				t.Errorf("call %d of (%d, %.3v): %v", i, n, l[:min(2, len(l))], e)
			}
		}
		if len(sol)+len(why)+len(left)+len(sets)+len(ext)+k+b != 0 || is || follows || has {
			t.Errorf("a result beside ErrForm: %v %v %v %v %v %v %v %v %v %v", sol, k, why, is, follows, left, sets, ext, b, has)
		}
	}
	for _, l := range notSystems() {
		test(2, l)
		if got, e := graph.Extend(2, good, nil, l); e != api.ErrForm || len(got) != 0 {
			t.Errorf("Extend by %.3v: %v, %v", l[:min(2, len(l))], got, e)
		}
		if len(l) == 1 {
			if got, e := graph.Follows(2, good, l[0]); e != api.ErrForm || got {
				t.Errorf("Follows of %v: %v, %v", l, got, e)
			}
		}
	}
	test(-1, nil)
	test(1201, nil)
	test(1, good)
	test(math.MaxInt, good)
}

// TestArguments: arguments stay as they are, and no result shares memory with them (R4).
func TestArguments(t *testing.T) {
	r := rand.New(rand.NewSource(3))
	for range 300 {
		n, l := anySystem(r)
		keep := clone(l)
		sol, e := graph.Solve(n, l)
		graph.Holds(n, l, sol)
		graph.Explain(n, l)
		graph.Minimal(n, l)
		graph.Classes(n, l)
		graph.Bound(n, l, 0)
		// Room behind the list must not be written to.
		roomy := append(slices.Clone(l), con(lv(77), lv(99)))
		graph.Follows(n, roomy[:len(l)], con(lv(1), lv(1)))
		graph.Extend(n, roomy[:len(l)], sol, []api.LCon{con(lv(1), lv(1))})
		if !sameSystem(l, keep) || !sameSystem(roomy[len(l):], []api.LCon{con(lv(77), lv(99))}) {
			t.Fatalf("%v became %v", keep, roomy)
		}
		if e != api.OK || n == 0 {
			continue
		}
		ext, _ := graph.Extend(n, l, sol, nil)
		before := slices.Clone(sol)
		ext[0] += 5
		if !slices.Equal(sol, before) {
			t.Fatalf("Extend of %v gives its argument out", l)
		}
	}
}
