package graph_test

import (
	"math"
	"math/rand"
	"slices"
	"testing"

	"tenet/api"
)

// reach is the greatest number that the tests by all assignments give to a variable: in the small systems each bound and each least number lies well below it, also where a constraint that does not follow is broken.
const reach = 12

// lv returns a level with the Const c and, for each two numbers, a variable and its Plus.
func lv(c int, vars ...int) api.Level {
	a := api.Level{Const: c}
	for i := 0; i+1 < len(vars); i += 2 {
		a.Vars = append(a.Vars, api.LVar{V: vars[i], Plus: vars[i+1]})
	}
	return a
}

func con(a, b api.Level) api.LCon {
	return api.LCon{A: a, B: b}
}

// step says that u<a>+plus is at most u<b>.
func step(a, plus, b int) api.LCon {
	return con(lv(0, a, plus), lv(0, b, 0))
}

// floor says that u<v> is at least c, roof that it is at most c.
func floor(v, c int) api.LCon { return con(lv(c), lv(0, v, 0)) }
func roof(v, c int) api.LCon  { return con(lv(0, v, 0), lv(c)) }

func clone(l []api.LCon) []api.LCon {
	var out []api.LCon
	for _, c := range l {
		c.A.Vars, c.B.Vars = slices.Clone(c.A.Vars), slices.Clone(c.B.Vars)
		out = append(out, c)
	}
	return out
}

func sameSystem(a, b []api.LCon) bool {
	sameLevel := func(x, y api.Level) bool { return x.Const == y.Const && slices.Equal(x.Vars, y.Vars) }
	return slices.EqualFunc(a, b, func(c, d api.LCon) bool { return sameLevel(c.A, d.A) && sameLevel(c.B, d.B) })
}

func valueOf(a api.Level, vals []int) int {
	n := a.Const
	for _, x := range a.Vars {
		n = max(n, vals[x.V]+x.Plus)
	}
	return n
}

func holds(c api.LCon, vals []int) bool {
	return valueOf(c.A, vals) <= valueOf(c.B, vals)
}

func allHold(l []api.LCon, vals []int) bool {
	return !slices.ContainsFunc(l, func(c api.LCon) bool { return !holds(c, vals) })
}

// solutions returns all solutions whose numbers are at most reach.
func solutions(n int, l []api.LCon) [][]int {
	var list [][]int
	vals := make([]int, n)
	for {
		if allHold(l, vals) {
			list = append(list, slices.Clone(vals))
		}
		k := 0
		for k < n && vals[k] == reach {
			vals[k] = 0
			k++
		}
		if k == n {
			return list
		}
		vals[k]++
	}
}

// least returns the least number of each variable in a list of solutions.
func least(n int, list [][]int) []int {
	vals := slices.Repeat([]int{reach}, n)
	for _, s := range list {
		for v := range n {
			vals[v] = min(vals[v], s[v])
		}
	}
	return vals
}

func anyLevel(r *rand.Rand, n, atoms int) api.Level {
	var a api.Level
	for _, v := range r.Perm(n)[:r.Intn(min(n, atoms)+1)] {
		a.Vars = append(a.Vars, api.LVar{V: v, Plus: r.Intn(3)})
	}
	if len(a.Vars) == 0 || r.Intn(3) == 0 {
		a.Const = r.Intn(4)
	}
	return a
}

// anyCon returns a small constraint of n variables.
func anyCon(r *rand.Rand, n int) api.LCon {
	b := lv(r.Intn(4))
	if n > 0 && r.Intn(4) > 0 {
		b = lv(0, r.Intn(n), r.Intn(3))
	}
	return con(anyLevel(r, n, 3), b)
}

func anySystem(r *rand.Rand) (int, []api.LCon) {
	n := r.Intn(4)
	var l []api.LCon
	for range r.Intn(8) {
		l = append(l, anyCon(r, n))
	}
	return n, l
}

// eachSystem runs a test for many small systems, always the same ones, with all solutions of each.
func eachSystem(t *testing.T, times int, test func(r *rand.Rand, n int, l []api.LCon, all [][]int)) {
	t.Helper()
	r := rand.New(rand.NewSource(2))
	solved := 0
	for range times {
		n, l := anySystem(r)
		all := solutions(n, l)
		if len(all) > 0 {
			solved++
		}
		test(r, n, l, all)
	}
	if solved < times/5 || solved > times*9/10 {
		t.Fatalf("%d of %d systems have a solution: the test sees too few of one kind", solved, times)
	}
}

// notSystems returns lists that are no systems over two variables, each for one reason.
func notSystems() [][]api.LCon {
	var many api.Level
	for v := range 9 {
		many.Vars = append(many.Vars, api.LVar{V: v})
	}
	one := []api.LCon{
		con(lv(-1), lv(0)), con(lv(1001), lv(1000)), con(lv(0, 2, 0), lv(5)), con(lv(0, -1, 0), lv(5)), con(lv(0, 0, 0, 2, 0), lv(5)),
		con(lv(0, 0, -1), lv(5)), con(lv(0, 0, 1001), lv(5)), con(lv(0, 0, 1, 0, 2), lv(5)), con(many, lv(5)),
		con(lv(0), lv(-1)), con(lv(0), lv(1001)), con(lv(0), lv(0, 2, 0)), con(lv(0), lv(0, -1, 0)), con(lv(0), lv(0, 0, 1001)),
		con(lv(0), lv(1, 0, 0)), con(lv(0), lv(1, 0, 5)), con(lv(0), lv(0, 0, 0, 1, 0)), con(lv(0), lv(0, 0, 0, 0, 0)),
		con(lv(math.MinInt), lv(0)), con(lv(0, math.MaxInt, 0), lv(0)), con(lv(0), lv(0, math.MinInt, 0)), con(lv(0), lv(math.MaxInt)),
	}
	lists := [][]api.LCon{slices.Repeat([]api.LCon{step(0, 0, 1)}, 3001)}
	for _, c := range one {
		lists = append(lists, []api.LCon{c}, []api.LCon{step(0, 1, 1), c}, []api.LCon{c, step(0, 1, 0)})
	}
	return lists
}
