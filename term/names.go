package term

import (
	"slices"

	"tenet/api"
	"tenet/level"
)

// Levels is described in P3.6.
func Levels(t api.Term) []int {
	var list []int
	walk(&t, func(t *api.Term, _, _ int) bool {
		for _, a := range t.U {
			list = append(list, level.Vars(a)...)
		}
		return true
	})
	return ascending(list)
}

// SetLevels is described in P3.6.
func SetLevels(t api.Term, by []api.Level) (api.Term, api.Errno) {
	out, code := copied(t), api.OK
	walk(&out, func(t *api.Term, _, _ int) bool {
		for i := 0; i < len(t.U) && code == api.OK; i++ {
			t.U[i], code = level.Subst(t.U[i], by)
		}
		return code == api.OK
	})
	if code != api.OK {
		return api.Term{}, code
	}
	return out, api.OK
}

// Names is described in P3.6.
func Names(t api.Term) []string {
	var list []string
	seen := map[string]bool{}
	walk(&t, func(t *api.Term, _, _ int) bool {
		if isOp(t.Op) && shapes[t.Op].kind == named && !seen[t.S] {
			seen[t.S] = true
			list = append(list, t.S)
		}
		return true
	})
	return list
}

// Holes is described in P3.6.
func Holes(t api.Term) []int {
	var list []int
	walk(&t, func(t *api.Term, _, _ int) bool {
		if t.Op == api.THole {
			list = append(list, t.N)
		}
		return true
	})
	return ascending(list)
}

// ascending sorts a list that nobody else holds, and leaves each number once.
func ascending(list []int) []int {
	slices.Sort(list)
	return slices.Compact(list)
}
