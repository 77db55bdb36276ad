package level

import (
	"cmp"

	"tenet/api"
)

// maxValue is the greatest number that an assignment may have for a variable that is read.
const maxValue = 1<<31 - 1

// Leq is described in P1.3.
func Leq(a, b api.Level) bool {
	if !Valid(a) || !Valid(b) {
		return false
	}
	// Where all variables are 0, b is its Const or its greatest Plus; where one alone is above all numbers of b, only the same variable of b keeps up.
	if a.Const > max(b.Const, greatestPlus(b.Vars)) {
		return false
	}
	for _, x := range a.Vars {
		if !covers(b.Vars, x) {
			return false
		}
	}
	return true
}

// Equal is described in P1.3.
func Equal(a, b api.Level) bool {
	return Leq(a, b) && Leq(b, a)
}

// Eval is described in P1.4.
func Eval(a api.Level, vals []int) (int, api.Errno) {
	if !Valid(a) {
		return 0, api.ErrForm
	}
	n := a.Const
	for _, x := range a.Vars {
		v := assigned(vals, x.V)
		if v > maxValue {
			return 0, api.ErrRange
		}
		n = max(n, v+x.Plus)
	}
	return n, api.OK
}

// Vars is described in P1.4.
func Vars(a api.Level) []int {
	var list []int
	for _, x := range a.Vars {
		list = append(list, x.V)
	}
	return merged(list, cmp.Compare[int], func(v, _ int) int { return v })
}

// covers reports whether some part of vars is at least x for every assignment.
func covers(vars []api.LVar, x api.LVar) bool {
	for _, y := range vars {
		if y.V == x.V && y.Plus >= x.Plus {
			return true
		}
	}
	return false
}

func assigned(vals []int, v int) int {
	if v < len(vals) {
		return max(0, vals[v])
	}
	return 0
}
