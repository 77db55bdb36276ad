package graph_test

import (
	"slices"
	"testing"

	"tenet/api"
	"tenet/graph"
)

// TestReadmeExample runs what README.md shows.
func TestReadmeExample(t *testing.T) {
	u := func(v, plus int) api.Level { return api.Level{Vars: []api.LVar{{V: v, Plus: plus}}} }
	l := []api.LCon{{A: u(0, 1), B: u(1, 0)}, {A: u(1, 1), B: u(2, 0)}}
	if sol, e := graph.Solve(3, l); !slices.Equal(sol, []int{0, 1, 2}) || e != api.OK {
		t.Errorf("Solve = %v, %v", sol, e)
	}
	if yes, e := graph.Follows(3, l, api.LCon{A: u(0, 2), B: u(2, 0)}); !yes || e != api.OK {
		t.Errorf("Follows = %v, %v", yes, e)
	}
	if why, is, e := graph.Explain(3, append(l, api.LCon{A: u(2, 0), B: u(0, 0)})); !slices.Equal(why, []int{0, 1, 2}) || !is || e != api.OK {
		t.Errorf("Explain = %v, %v, %v", why, is, e)
	}
}

// TestChapterExamples runs the examples of the chapter.
func TestChapterExamples(t *testing.T) {
	l := []api.LCon{step(0, 1, 1), step(1, 1, 2)}
	if sol, e := graph.Solve(3, l); !slices.Equal(sol, []int{0, 1, 2}) || e != api.OK {
		t.Errorf("example 1: Solve = %v, %v", sol, e)
	}
	l = append(l, step(2, 0, 0))
	if sol, e := graph.Solve(3, l); len(sol) != 0 || e != api.ErrCircle {
		t.Errorf("example 1: Solve of the circle = %v, %v", sol, e)
	}
	if why, is, e := graph.Explain(3, l); !slices.Equal(why, []int{0, 1, 2}) || !is || e != api.OK {
		t.Errorf("example 1: Explain = %v, %v, %v", why, is, e)
	}
	if sets, e := graph.Classes(2, ring(2, 0)); !sameSets(sets, [][]int{{0, 1}}) || e != api.OK {
		t.Errorf("example 2: Classes = %v, %v", sets, e)
	}
	long := ring(1000, 0)
	if sets, e := graph.Classes(1000, long); len(sets) != 1 || len(sets[0]) != 1000 || !slices.IsSorted(sets[0]) || e != api.OK {
		t.Errorf("example 2: %d classes, %v", len(sets), e)
	}
	long[700].A.Vars[0].Plus = 1
	if _, e := graph.Solve(1000, long); e != api.ErrCircle {
		t.Errorf("example 2: Solve with + 1: %v", e)
	}
	if n, is, e := graph.Bound(1, []api.LCon{con(lv(0, 0, 3), lv(5))}, 0); n != 2 || !is || e != api.OK {
		t.Errorf("example 3: Bound = %d, %v, %v", n, is, e)
	}
}
