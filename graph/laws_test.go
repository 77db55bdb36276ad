package graph_test

import (
	"math/rand"
	"slices"
	"testing"

	"tenet/api"
	"tenet/graph"
)

// P2.6

func TestSolutionIsLeast(t *testing.T) {
	eachSystem(t, 3000, func(r *rand.Rand, n int, l []api.LCon, all [][]int) {
		got, e := graph.Solve(n, l)
		why, is, _ := graph.Explain(n, l)
		if (e == api.ErrCircle) != (len(why) > 0) || is != (len(why) > 0) {
			t.Fatalf("Solve(%v): %v, Explain: %v", l, e, why)
		}
		if len(all) == 0 {
			if e != api.ErrCircle || len(got) != 0 {
				t.Fatalf("Solve(%v) = %v, %v", l, got, e)
			}
			return
		}
		if e != api.OK || !slices.Equal(got, least(n, all)) {
			t.Fatalf("Solve(%d, %v) = %v, %v, want %v", n, l, got, e, least(n, all))
		}
		if k, e := graph.Holds(n, l, got); k != -1 || e != api.OK {
			t.Fatalf("Holds(%v, %v) = %d, %v", l, got, k, e)
		}
		for v := range got {
			if got[v] == 0 {
				continue
			}
			got[v]--
			if k, e := graph.Holds(n, l, got); k == -1 || e != api.OK {
				t.Fatalf("Holds(%v, %v) = %d, %v", l, got, k, e)
			}
			got[v]++
		}
	})
}

func TestHoldsAllSystems(t *testing.T) {
	eachSystem(t, 300, func(r *rand.Rand, n int, l []api.LCon, all [][]int) {
		for range 20 {
			var vals []int
			for range n {
				vals = append(vals, r.Intn(6))
			}
			want := slices.IndexFunc(l, func(c api.LCon) bool { return !holds(c, vals) })
			if k, e := graph.Holds(n, l, vals); k != want || e != api.OK {
				t.Fatalf("Holds(%v, %v) = %d, %v, want %d", l, vals, k, e, want)
			}
		}
	})
}

// P2.7

func TestWhatFollows(t *testing.T) {
	eachSystem(t, 800, func(r *rand.Rand, n int, l []api.LCon, all [][]int) {
		for _, c := range l {
			if got, e := graph.Follows(n, l, c); !got || e != api.OK {
				t.Fatalf("Follows(%v, %v) = %v, %v", l, c, got, e)
			}
		}
		c, further := anyCon(r, n), anyCon(r, n)
		if got, _ := graph.Follows(n, l, c); !got {
			return
		}
		if sol, e := graph.Solve(n, l); e == api.OK && !holds(c, sol) {
			t.Fatalf("%v follows from %v, but does not hold in %v", c, l, sol)
		}
		if got, e := graph.Follows(n, append(slices.Clone(l), further), c); !got || e != api.OK {
			t.Fatalf("%v follows from %v, but not with %v: %v", c, l, further, e)
		}
	})
}

func TestMinimalHasTheSameSolutions(t *testing.T) {
	eachSystem(t, 800, func(r *rand.Rand, n int, l []api.LCon, all [][]int) {
		at, e := graph.Minimal(n, l)
		if e != api.OK {
			return
		}
		left := pick(l, at)
		if len(solutions(n, left)) != len(all) {
			t.Fatalf("Minimal(%v) = %v has other solutions", l, at)
		}
		a, _ := graph.Solve(n, l)
		if b, e := graph.Solve(n, left); e != api.OK || !slices.Equal(a, b) {
			t.Fatalf("Minimal(%v) = %v: %v became %v, %v", l, at, a, b, e)
		}
		for _, c := range l {
			if got, e := graph.Follows(n, left, c); !got || e != api.OK {
				t.Fatalf("Minimal(%v) = %v: %v does not follow", l, at, c)
			}
		}
		if again, e := graph.Minimal(n, left); e != api.OK || len(again) != len(left) {
			t.Fatalf("Minimal(%v) leaves %v, and of these %v", l, at, again)
		}
	})
}

// P2.8

func TestExtendIsSolveOfBoth(t *testing.T) {
	eachSystem(t, 3000, func(r *rand.Rand, n int, l []api.LCon, all [][]int) {
		k := r.Intn(len(l) + 1)
		sol, e := graph.Solve(n, l[:k])
		got, code := graph.Extend(n, l[:k], sol, l[k:])
		if e != api.OK {
			if code != api.ErrRange || len(got) != 0 {
				t.Fatalf("Extend(%v by %v) = %v, %v", l[:k], l[k:], got, code)
			}
			return
		}
		if want, e := graph.Solve(n, l); code != e || !slices.Equal(got, want) {
			t.Fatalf("Extend(%v by %v) = %v, %v, want %v, %v", l[:k], l[k:], got, code, want, e)
		}
		for v := range sol {
			sol[v]++
			if got, e := graph.Extend(n, l[:k], sol, l[k:]); e != api.ErrRange || len(got) != 0 {
				t.Fatalf("Extend(%v, %v) = %v, %v", l[:k], sol, got, e)
			}
			sol[v]--
		}
	})
}

func TestOrderOfConstraints(t *testing.T) {
	eachSystem(t, 1000, func(r *rand.Rand, n int, l []api.LCon, all [][]int) {
		other := clone(l)
		r.Shuffle(len(other), func(i, j int) { other[i], other[j] = other[j], other[i] })
		for _, c := range other {
			slices.Reverse(c.A.Vars)
		}
		a, e := graph.Solve(n, l)
		b, f := graph.Solve(n, other)
		sets, _ := graph.Classes(n, l)
		others, _ := graph.Classes(n, other)
		if e != f || !slices.Equal(a, b) || !sameSets(sets, others) {
			t.Fatalf("%v: %v, %v, %v, in another order %v, %v, %v", l, a, e, sets, b, f, others)
		}
	})
}

func TestOtherNumbers(t *testing.T) {
	eachSystem(t, 1000, func(r *rand.Rand, n int, l []api.LCon, all [][]int) {
		to := r.Perm(n)
		other := clone(l)
		for _, c := range other {
			for _, vars := range [][]api.LVar{c.A.Vars, c.B.Vars} {
				for i := range vars {
					vars[i].V = to[vars[i].V]
				}
			}
		}
		a, e := graph.Solve(n, l)
		b, f := graph.Solve(n, other)
		if e != f || len(a) != len(b) {
			t.Fatalf("%v: %v, %v, with other numbers %v, %v", l, a, e, b, f)
		}
		for v := range a {
			x, isX, _ := graph.Bound(n, l, v)
			y, isY, _ := graph.Bound(n, other, to[v])
			if a[v] != b[to[v]] || x != y || isX != isY {
				t.Fatalf("%v: %v, with other numbers %v; u%d to %d, %d", l, a, b, v, x, y)
			}
		}
	})
}
