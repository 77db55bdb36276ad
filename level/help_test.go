package level_test

import (
	"math"
	"slices"
	"testing"

	"tenet/api"
	"tenet/level"
)

// lv returns a level with the Const c and, for each two numbers, a variable and its Plus.
func lv(c int, vars ...int) api.Level {
	a := api.Level{Const: c}
	for i := 0; i+1 < len(vars); i += 2 {
		a.Vars = append(a.Vars, api.LVar{V: vars[i], Plus: vars[i+1]})
	}
	return a
}

// row returns the level max(u<from>+plus, ..) of n variables.
func row(from, n, plus int) api.Level {
	var a api.Level
	for i := range n {
		a.Vars = append(a.Vars, api.LVar{V: from + i, Plus: plus})
	}
	return a
}

func clone(a api.Level) api.Level {
	return api.Level{Const: a.Const, Vars: slices.Clone(a.Vars)}
}

// same compares levels as they are written, not their values.
func same(a, b api.Level) bool {
	return a.Const == b.Const && slices.Equal(a.Vars, b.Vars)
}

// want checks a result that is a level; with an error it must be the zero value.
func want(t *testing.T, call string, got api.Level, e api.Errno, level api.Level, code api.Errno) {
	t.Helper()
	if e != code || !same(got, level) {
		t.Errorf("%s = %+v, %v, want %+v, %v", call, got, e, level, code)
	}
}

// valueOf is the value of a level by its definition.
func valueOf(a api.Level, vals []int) int {
	n := a.Const
	for _, x := range a.Vars {
		if x.V < len(vals) && vals[x.V] > 0 {
			n = max(n, vals[x.V]+x.Plus)
		} else {
			n = max(n, x.Plus)
		}
	}
	return n
}

// invalid returns levels each of which breaks one condition of a valid one.
func invalid() []api.Level {
	return []api.Level{
		lv(-1), lv(1001), lv(math.MinInt), lv(math.MaxInt), lv(-1, 0, 5), lv(1001, 0, 1000),
		lv(0, -1, 0), lv(0, 1200, 0), lv(0, math.MinInt, 0), lv(0, math.MaxInt, 0),
		lv(0, 0, -1), lv(0, 0, 1001), lv(0, 0, math.MinInt), lv(0, 0, math.MaxInt),
		lv(0, 0, 0, 0, 1), lv(0, 3, 2, 3, 2), lv(1, 0, 0, 1, 0, 2, 0, 0, 0),
		lv(0, 0, 0, 1, -1), row(0, 9, 0), row(0, 100000, 0),
	}
}

// small returns valid levels of the variables 0 to 2, canonical and not, their Vars in either order.
func small() []api.Level {
	var list []api.Level
	for _, c := range []int{0, 1, 3} {
		for _, x := range []int{-1, 0, 1, 3} {
			for _, y := range []int{-1, 0, 2} {
				a, b := lv(c), lv(c)
				if x >= 0 {
					a.Vars = append(a.Vars, api.LVar{V: 0, Plus: x})
				}
				if y >= 0 {
					a.Vars = append(a.Vars, api.LVar{V: 2, Plus: y})
				}
				list = append(list, a)
				if x >= 0 && y >= 0 {
					b.Vars = append(b.Vars, a.Vars[1], a.Vars[0], api.LVar{V: 1, Plus: x})
					list = append(list, b)
				}
			}
		}
	}
	return list
}

// assignments returns all lists of n of the given numbers.
func assignments(n int, of ...int) [][]int {
	lists := [][]int{nil}
	for range n {
		var longer [][]int
		for _, l := range lists {
			for _, v := range of {
				longer = append(longer, append(slices.Clone(l), v))
			}
		}
		lists = longer
	}
	return lists
}

// canonical reports whether a level is canonical, by the definition.
func canonical(a api.Level) bool {
	top := -1
	for i, x := range a.Vars {
		if i > 0 && a.Vars[i-1].V >= x.V {
			return false
		}
		top = max(top, x.Plus)
	}
	return level.Valid(a) && (a.Const == 0 || a.Const > top)
}
