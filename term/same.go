package term

import (
	"slices"

	"tenet/api"
	"tenet/level"
)

// Same is described in P3.4.
func Same(a, b api.Term) bool {
	return agree(a, b, func(api.Term, int) bool { return false })
}

// Alike is described in P3.4.
func Alike(a, b api.Term) bool {
	return agree(a, b, IsProof)
}

// agree reports whether two terms are equal but for the parts of which skip says that they do not matter.
func agree(a, b api.Term, skip func(t api.Term, i int) bool) bool {
	if a.Op != b.Op || a.N != b.N || a.S != b.S || len(a.L) != len(b.L) || !slices.EqualFunc(a.U, b.U, sameLevel) {
		return false
	}
	for i := range a.L {
		if !skip(a, i) && !agree(a.L[i], b.L[i], skip) {
			return false
		}
	}
	return true
}

func sameLevel(a, b api.Level) bool {
	if level.Valid(a) && level.Valid(b) {
		return level.Equal(a, b)
	}
	return sameFields(a, b)
}

func sameFields(a, b api.Level) bool {
	return a.Const == b.Const && slices.Equal(a.Vars, b.Vars)
}
