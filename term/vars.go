package term

import "tenet/api"

// reach is the greatest number of a variable, and the farthest that Shift goes.
const reach = 1 << 31

// Free is described in P3.3.
func Free(t api.Term) int {
	least := 0
	walk(&t, func(t *api.Term, bound, _ int) bool {
		if v, is := freeVar(t, bound); is {
			least = max(least, v+1)
		}
		return true
	})
	return least
}

// Shift is described in P3.3.
func Shift(t api.Term, by, from int) (api.Term, bool) {
	if by < -reach || by > reach || from < 0 || from > reach {
		return api.Term{}, false
	}
	out, fits := copied(t), true
	walk(&out, func(t *api.Term, bound, _ int) bool {
		if v, is := freeVar(t, bound); is && v >= from {
			fits = fits && v+by >= from
			t.N += by
		}
		return fits
	})
	if !fits {
		return api.Term{}, false
	}
	return out, true
}

// Fill is described in P3.3.
func Fill(t api.Term, by []api.Term) api.Term {
	out := copied(t)
	walk(&out, func(t *api.Term, bound, _ int) bool {
		v, is := freeVar(t, bound)
		if is && v < len(by) {
			// What is put in is not filled again.
			*t, _ = Shift(by[v], bound, 0)
			return false
		}
		if is {
			t.N -= len(by)
		}
		return true
	})
	return out
}

// freeVar returns the number, as at the root, of a node that is a free variable there; false if it is none.
func freeVar(t *api.Term, bound int) (int, bool) {
	if t.Op != api.TVar || t.N < bound || t.N > reach {
		return 0, false
	}
	return t.N - bound, true
}
