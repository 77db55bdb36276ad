package graph_test

import (
	"math"
	"math/rand"
	"slices"
	"testing"

	"tenet/api"
	"tenet/graph"
)

func sameSets(a, b [][]int) bool {
	return slices.EqualFunc(a, b, func(x, y []int) bool { return slices.Equal(x, y) })
}

// P2.4

func TestClasses(t *testing.T) {
	for _, x := range []struct {
		n    int
		l    []api.LCon
		want [][]int
		e    api.Errno
	}{
		{0, nil, nil, api.OK}, {3, nil, nil, api.OK}, {2, ring(2, 0), [][]int{{0, 1}}, api.OK}, {2, []api.LCon{step(0, 0, 1)}, nil, api.OK},
		{4, []api.LCon{step(3, 0, 0), step(0, 0, 3), step(2, 0, 1), step(1, 0, 2)}, [][]int{{0, 3}, {1, 2}}, api.OK},
		// Bounds from both sides make variables equal without a constraint between them.
		{3, []api.LCon{roof(0, 0), roof(2, 0)}, [][]int{{0, 2}}, api.OK}, {3, []api.LCon{roof(0, 2), floor(0, 2), roof(1, 2), floor(1, 2), floor(2, 2)}, [][]int{{0, 1}}, api.OK},
		// Equal in the least solution only, or apart by the same number in each solution.
		{2, []api.LCon{floor(0, 3), floor(1, 3)}, nil, api.OK}, {2, []api.LCon{step(0, 1, 1), con(lv(0, 1, 0), lv(0, 0, 1))}, nil, api.OK},
		{3, []api.LCon{step(0, 1, 1), con(lv(0, 1, 1), lv(0, 2, 2)), con(lv(0, 2, 1), lv(0, 0, 1))}, [][]int{{0, 2}}, api.OK},
		{3, []api.LCon{con(lv(0, 0, 0, 1, 0, 2, 0), lv(0, 0, 0)), con(lv(0, 0, 0), lv(0, 2, 0))}, [][]int{{0, 2}}, api.OK},
		{2, ring(2, 1), nil, api.ErrCircle}, {0, []api.LCon{con(lv(1), lv(0))}, nil, api.ErrCircle},
	} {
		got, e := graph.Classes(x.n, x.l)
		if e != x.e || !sameSets(got, x.want) {
			t.Errorf("Classes(%d, %v) = %v, %v, want %v, %v", x.n, x.l, got, e, x.want, x.e)
		}
	}
}

func TestClassesAllSystems(t *testing.T) {
	some := 0
	eachSystem(t, 2000, func(r *rand.Rand, n int, l []api.LCon, all [][]int) {
		// Few constraints over pairs in both directions give more classes than any constraints do.
		l = l[:min(len(l), r.Intn(4))]
		for v := 1; v < n; v++ {
			l = append(l, step(v, 0, r.Intn(v)), con(lv(0, r.Intn(v), 1), lv(0, v, 1+r.Intn(2))))
		}
		all = solutions(n, l)
		got, e := graph.Classes(n, l)
		if len(all) == 0 {
			if e != api.ErrCircle || len(got) != 0 {
				t.Fatalf("Classes(%v) = %v, %v", l, got, e)
			}
			return
		}
		var want [][]int
		for v := range n {
			equal := func(w int) bool {
				return !slices.ContainsFunc(all, func(s []int) bool { return s[v] != s[w] })
			}
			var set []int
			for w := range n {
				if equal(w) {
					set = append(set, w)
				}
			}
			if len(set) > 1 && set[0] == v {
				want = append(want, set)
				some++
			}
		}
		if e != api.OK || !sameSets(got, want) {
			t.Fatalf("Classes(%d, %v) = %v, %v, want %v", n, l, got, e, want)
		}
	})
	if some < 100 {
		t.Errorf("only %d classes", some)
	}
}

func TestBound(t *testing.T) {
	l := []api.LCon{con(lv(0, 0, 3), lv(0, 1, 1)), con(lv(0, 1, 2, 2, 0), lv(9)), con(lv(0, 3, 2), lv(0, 0, 6)), floor(4, 8)}
	for _, x := range []struct {
		v, want int
		is      bool
		e       api.Errno
	}{
		{0, 5, true, api.OK}, {1, 7, true, api.OK}, {2, 9, true, api.OK}, {3, 9, true, api.OK}, {4, 0, false, api.OK},
		{-1, 0, false, api.ErrRange}, {5, 0, false, api.ErrRange}, {math.MinInt, 0, false, api.ErrRange}, {math.MaxInt, 0, false, api.ErrRange},
	} {
		if got, is, e := graph.Bound(5, l, x.v); got != x.want || is != x.is || e != x.e {
			t.Errorf("Bound(%d) = %d, %v, %v, want %d, %v, %v", x.v, got, is, e, x.want, x.is, x.e)
		}
	}
	none := []api.LCon{con(lv(1), lv(0))}
	for v, want := range map[int]api.Errno{0: api.ErrCircle, 1: api.ErrRange, -1: api.ErrRange} {
		if got, is, e := graph.Bound(1, none, v); got != 0 || is || e != want {
			t.Errorf("Bound(%d) without a solution = %d, %v, %v", v, got, is, e)
		}
	}
	// A number that other variables depend on is bounded by theirs; one that no bound depends on is not.
	if got, is, e := graph.Bound(2, []api.LCon{step(0, 1, 1), roof(0, 3)}, 1); got != 0 || is || e != api.OK {
		t.Errorf("Bound of a free variable = %d, %v, %v", got, is, e)
	}
	// The bound 0 is one.
	if got, is, e := graph.Bound(1, []api.LCon{roof(0, 0)}, 0); got != 0 || !is || e != api.OK {
		t.Errorf("Bound of 0 = %d, %v, %v", got, is, e)
	}
}

func TestBoundOfALongChain(t *testing.T) {
	var l []api.LCon
	for v := range 1199 {
		l = append(l, con(lv(0, v+1, 0), lv(0, v, 1000)))
	}
	l = append(l, con(lv(0, 0, 1), lv(1000)))
	if got, is, e := graph.Bound(1200, l, 1199); got != 999+1199*1000 || !is || e != api.OK {
		t.Errorf("Bound = %d, %v, %v", got, is, e)
	}
}

func TestBoundAllSystems(t *testing.T) {
	bounded := 0
	eachSystem(t, 6000, func(r *rand.Rand, n int, l []api.LCon, all [][]int) {
		for v := range n {
			got, is, e := graph.Bound(n, l, v)
			if len(all) == 0 {
				if e != api.ErrCircle || got != 0 || is {
					t.Fatalf("Bound(%v, %d) = %d, %v, %v", l, v, got, is, e)
				}
				continue
			}
			most := 0
			for _, s := range all {
				most = max(most, s[v])
			}
			// A bound of a small system is at most 3 + 2 * 2. A variable without one comes near to reach at least, if others hold it back that may not pass reach.
			if want := most <= 7; e != api.OK || is != want || want && got != most || !want && got != 0 {
				t.Fatalf("Bound(%d, %v, %d) = %d, %v, %v, want %d", n, l, v, got, is, e, most)
			}
			if is {
				bounded++
			}
		}
	})
	if bounded < 500 {
		t.Errorf("only %d bounds", bounded)
	}
}
