package term

import "tenet/api"

// At is described in P3.5.
func At(t api.Term, path []int) (api.Term, int, api.Errno) {
	bound := 0
	for _, i := range path {
		if !isPart(t, i) {
			return api.Term{}, 0, api.ErrPath
		}
		bound += Binds(t, i)
		t = t.L[i]
	}
	return copied(t), bound, api.OK
}

// Put is described in P3.5.
func Put(t api.Term, path []int, s api.Term) (api.Term, api.Errno) {
	out := copied(t)
	place := &out
	for _, i := range path {
		if !isPart(*place, i) {
			return api.Term{}, api.ErrPath
		}
		place = &place.L[i]
	}
	*place = copied(s)
	return out, api.OK
}
