package graph_test

import (
	"math/rand"
	"slices"
	"testing"

	"tenet/api"
	"tenet/graph"
)

// ring returns u0 <= u1, u1 <= u2, .. and back to u0, where each step adds plus.
func ring(n, plus int) []api.LCon {
	var l []api.LCon
	for v := range n {
		l = append(l, step(v, plus, (v+1)%n))
	}
	return l
}

func pick(l []api.LCon, at []int) []api.LCon {
	var out []api.LCon
	for _, k := range at {
		out = append(out, l[k])
	}
	return out
}

func without(l []api.LCon, k int) []api.LCon {
	return slices.Delete(slices.Clone(l), k, k+1)
}

// explained checks that the constraints at the places why have no solution, but without any one of them they have one.
func explained(t *testing.T, n int, l []api.LCon, why []int) {
	t.Helper()
	if !slices.IsSorted(why) || len(slices.Compact(slices.Clone(why))) != len(why) || len(why) == 0 || why[0] < 0 || why[len(why)-1] >= len(l) {
		t.Fatalf("Explain(%v) = %v", l, why)
	}
	some := pick(l, why)
	if _, e := graph.Solve(n, some); e != api.ErrCircle {
		t.Fatalf("Explain(%v) = %v: these have a solution", l, why)
	}
	for k := range some {
		if _, e := graph.Solve(n, without(some, k)); e != api.OK {
			t.Fatalf("Explain(%v) = %v: %d is not needed", l, why, why[k])
		}
	}
}

// P2.2

func TestExplain(t *testing.T) {
	for _, x := range []struct {
		n    int
		l    []api.LCon
		want []int
	}{
		{0, nil, nil}, {2, []api.LCon{step(0, 1, 1), roof(1, 1)}, nil}, {0, []api.LCon{con(lv(1), lv(1)), con(lv(2), lv(1))}, []int{1}},
		{1, []api.LCon{step(0, 0, 0), step(0, 1, 0), floor(0, 3)}, []int{1}}, {1, []api.LCon{con(lv(0, 0, 1), lv(0))}, []int{0}},
		{1, []api.LCon{floor(0, 2), roof(0, 3), floor(0, 4)}, []int{1, 2}}, {2, []api.LCon{floor(0, 2), step(0, 1, 1), floor(1, 1), roof(1, 2)}, []int{0, 1, 3}},
		{3, []api.LCon{step(0, 1, 1), step(1, 1, 2), step(2, 0, 0)}, []int{0, 1, 2}},
		{3, []api.LCon{con(lv(0, 0, 1, 2, 0), lv(0, 1, 0)), step(1, 0, 2), step(2, 0, 0)}, []int{0, 1, 2}},
		{3, []api.LCon{con(lv(0, 0, 1, 2, 1), lv(0, 1, 0)), step(2, 0, 0), step(1, 0, 2)}, []int{0, 2}},
	} {
		got, is, e := graph.Explain(x.n, x.l)
		if e != api.OK || is != (x.want != nil) || !slices.Equal(got, x.want) {
			t.Errorf("Explain(%d, %v) = %v, %v, %v, want %v", x.n, x.l, got, is, e, x.want)
		}
	}
}

func TestExplainAllSystems(t *testing.T) {
	eachSystem(t, 2000, func(r *rand.Rand, n int, l []api.LCon, all [][]int) {
		why, is, e := graph.Explain(n, l)
		if e != api.OK || is != (len(all) == 0) {
			t.Fatalf("Explain(%v) = %v, %v, %v: %d solutions", l, why, is, e, len(all))
		}
		if is {
			explained(t, n, l, why)
		} else if len(why) != 0 {
			t.Fatalf("Explain(%v) = %v", l, why)
		}
	})
}

func TestExplainLargeSystems(t *testing.T) {
	r := rand.New(rand.NewSource(5))
	for range 5 {
		var l []api.LCon
		for v := range 59 {
			l = append(l, con(lv(0, v, 3, r.Intn(60), 0), lv(0, v+1, 3)))
			l[v].A.Vars = l[v].A.Vars[:1+r.Intn(2)]
			if l[v].A.Vars[len(l[v].A.Vars)-1].V == v {
				l[v].A.Vars = l[v].A.Vars[:1]
			}
		}
		l = append(l, step(59, 1, 0), step(59, 2, 0), floor(30, 7))
		r.Shuffle(len(l), func(i, j int) { l[i], l[j] = l[j], l[i] })
		why, is, e := graph.Explain(60, l)
		if !is || e != api.OK {
			t.Fatalf("Explain = %v, %v, %v", why, is, e)
		}
		explained(t, 60, l, why)
	}
	l := ring(1200, 1)
	r.Shuffle(len(l), func(i, j int) { l[i], l[j] = l[j], l[i] })
	if why, is, e := graph.Explain(1200, l); len(why) != 1200 || !is || e != api.OK {
		t.Errorf("Explain of a long circle: %d, %v, %v", len(why), is, e)
	}
}

// P2.3

func TestFollows(t *testing.T) {
	l := []api.LCon{con(lv(1, 0, 2), lv(0, 1, 1)), con(lv(0, 1, 1), lv(6)), floor(2, 4)}
	for _, x := range []struct {
		c    api.LCon
		want bool
	}{
		{con(lv(0), lv(0)), true}, {con(lv(1), lv(0)), false}, {con(lv(7), lv(7)), true}, {con(lv(0), lv(0, 0, 0)), true}, {floor(0, 1), false},
		{step(0, 1, 1), true}, {step(0, 2, 1), false}, {con(lv(0, 0, 3), lv(0, 1, 2)), true}, {con(lv(0, 0, 4), lv(0, 1, 2)), false},
		{roof(1, 5), true}, {roof(1, 4), false}, {roof(0, 4), true}, {roof(0, 3), false}, {roof(2, 1000), false},
		{floor(1, 1), true}, {floor(1, 2), false}, {floor(2, 4), true}, {con(lv(6), lv(0, 2, 2)), true}, {con(lv(7), lv(0, 2, 2)), false},
		{con(lv(5, 0, 1, 1, 0), lv(0, 2, 1)), true}, {con(lv(5, 0, 2, 1, 0), lv(0, 2, 1)), false}, {con(lv(6, 0, 1, 1, 0), lv(0, 2, 1)), false},
		{con(lv(0, 0, 1, 1, 1), lv(0, 1, 1)), true}, {con(lv(0, 0, 3, 1, 1), lv(0, 1, 1)), false}, {con(lv(0, 0, 1, 1, 2), lv(0, 1, 1)), false},
		{step(2, 0, 2), true}, {step(2, 1, 2), false}, {con(lv(0, 1, 1000), lv(0, 2, 1000)), false}, {con(lv(0, 1, 999), lv(0, 2, 1000)), true},
	} {
		if got, e := graph.Follows(3, l, x.c); got != x.want || e != api.OK {
			t.Errorf("Follows(%v) = %v, %v, want %v", x.c, got, e, x.want)
		}
	}
	if got, e := graph.Follows(1, []api.LCon{con(lv(1), lv(0))}, con(lv(1000), lv(0))); !got || e != api.OK {
		t.Errorf("Follows where there is no solution = %v, %v", got, e)
	}
	many := slices.Repeat([]api.LCon{step(0, 0, 1)}, 3000)
	if got, e := graph.Follows(2, many[1:], many[0]); !got || e != api.OK {
		t.Errorf("Follows from 2999 = %v, %v", got, e)
	}
	if got, e := graph.Follows(2, many, many[0]); got || e != api.ErrForm {
		t.Errorf("Follows from 3000 = %v, %v", got, e)
	}
}

func TestFollowsAllSystems(t *testing.T) {
	yes := 0
	eachSystem(t, 1500, func(r *rand.Rand, n int, l []api.LCon, all [][]int) {
		for range 6 {
			c := anyCon(r, n)
			want := !slices.ContainsFunc(all, func(s []int) bool { return !holds(c, s) })
			got, e := graph.Follows(n, l, c)
			if got != want || e != api.OK {
				t.Fatalf("Follows(%d, %v, %v) = %v, %v, want %v", n, l, c, got, e, want)
			}
			if got && len(all) > 0 {
				yes++
			}
		}
	})
	if yes < 500 {
		t.Errorf("only %d constraints follow", yes)
	}
}

func TestMinimal(t *testing.T) {
	for _, x := range []struct {
		n    int
		l    []api.LCon
		want []int
		e    api.Errno
	}{
		{0, nil, nil, api.OK}, {1, []api.LCon{con(lv(0), lv(0, 0, 0)), con(lv(2), lv(2))}, nil, api.OK}, {2, []api.LCon{step(0, 1, 1), step(0, 1, 1)}, []int{0}, api.OK},
		{2, []api.LCon{step(0, 1, 1), step(0, 2, 1)}, []int{1}, api.OK}, {2, []api.LCon{step(0, 2, 1), step(0, 1, 1)}, []int{0}, api.OK},
		{3, []api.LCon{step(0, 0, 2), step(0, 0, 1), step(1, 0, 2)}, []int{1, 2}, api.OK},
		{2, []api.LCon{con(lv(0, 0, 1, 1, 0), lv(9)), roof(0, 8), roof(1, 9)}, []int{0}, api.OK},
		{2, []api.LCon{roof(0, 8), roof(1, 9), con(lv(0, 0, 1, 1, 0), lv(9))}, []int{0, 1}, api.OK},
		{3, append(ring(3, 0), step(0, 0, 2)), []int{0, 1, 2}, api.OK}, {2, append(ring(2, 0), ring(2, 0)...), []int{0, 1}, api.OK},
		{1, []api.LCon{con(lv(0, 0, 1), lv(0, 0, 0)), floor(0, 3)}, nil, api.ErrCircle}, {0, []api.LCon{con(lv(1), lv(0))}, nil, api.ErrCircle},
	} {
		got, e := graph.Minimal(x.n, x.l)
		if e != x.e || !slices.Equal(got, x.want) {
			t.Errorf("Minimal(%d, %v) = %v, %v, want %v, %v", x.n, x.l, got, e, x.want, x.e)
		}
	}
}

func TestMinimalLimit(t *testing.T) {
	l := ring(201, 0)
	if got, e := graph.Minimal(201, l[:200]); e != api.OK || len(got) != 200 {
		t.Errorf("Minimal of 200: %v, %v", got, e)
	}
	for _, plus := range []int{0, 1} {
		if got, e := graph.Minimal(201, ring(201, plus)); e != api.ErrLimit || len(got) != 0 {
			t.Errorf("Minimal of 201: %v, %v", got, e)
		}
	}
	if got, e := graph.Minimal(200, ring(200, 1)); e != api.ErrCircle || len(got) != 0 {
		t.Errorf("Minimal of a circle of 200: %v, %v", got, e)
	}
}

// TestMinimalAllSystems leaves constraints out by the definition, with all solutions.
func TestMinimalAllSystems(t *testing.T) {
	eachSystem(t, 1000, func(r *rand.Rand, n int, l []api.LCon, all [][]int) {
		got, e := graph.Minimal(n, l)
		if len(all) == 0 {
			if e != api.ErrCircle || len(got) != 0 {
				t.Fatalf("Minimal(%v) = %v, %v", l, got, e)
			}
			return
		}
		var want []int
		for k := range l {
			want = append(want, k)
		}
		for k := len(l) - 1; k >= 0; k-- {
			fewer := without(l, 0)[:0]
			at := slices.Index(want, k)
			fewer = append(fewer, pick(l, slices.Delete(slices.Clone(want), at, at+1))...)
			if len(solutions(n, fewer)) == len(all) {
				want = slices.Delete(want, at, at+1)
			}
		}
		if e != api.OK || !slices.Equal(got, want) {
			t.Fatalf("Minimal(%d, %v) = %v, %v, want %v", n, l, got, e, want)
		}
	})
}
