package graph

import (
	"slices"

	"tenet/api"
)

// maxMinimal is how many constraints Minimal takes.
const maxMinimal = 200

// Explain is described in P2.2.
func Explain(n int, l []api.LCon) ([]int, bool, api.Errno) {
	if !Valid(n, l) {
		return nil, false, api.ErrForm
	}
	s := begin(n, l)
	for k := range l {
		if s.add(k) == circle {
			return s.needed(k), true, api.OK
		}
	}
	return nil, false, api.OK
}

// Follows is described in P2.3.
func Follows(n int, l []api.LCon, c api.LCon) (bool, api.Errno) {
	all := append(slices.Clone(l), c)
	if !Valid(n, all) {
		return false, api.ErrForm
	}
	s := begin(n, all)
	return s.addAll(0, len(l)) == circle || s.follows(len(l)), api.OK
}

// Minimal is described in P2.3.
func Minimal(n int, l []api.LCon) ([]int, api.Errno) {
	if !Valid(n, l) {
		return nil, api.ErrForm
	}
	if len(l) > maxMinimal {
		return nil, api.ErrLimit
	}
	s := begin(n, l)
	if s.addAll(0, len(l)) == circle {
		return nil, api.ErrCircle
	}
	var left []int
	for k := len(l) - 1; k >= 0; k-- {
		s.on[k] = false
		if !s.follows(k) {
			s.on[k] = true
			left = append(left, k)
		}
	}
	slices.Reverse(left)
	return left, api.OK
}

// needed returns, of the constraints up to last, some that have no solution, but have one without any one of them; those before last are on, and last makes a circle with them. One after the other is turned off: if the rest still makes a circle, it stays off. If not, it is needed, and from there on it is the asking one, since the numbers hold for all of the rest.
func (s *search) needed(last int) []int {
	list, asking := []int{last}, last
	for k := range last {
		s.on[k] = false
		if s.add(asking) == rest {
			list = append(list, k)
			asking = k
		}
	}
	slices.Sort(list)
	return list
}

// follows reports whether the constraint k, which is off, follows from those that are on. It does if the contrary of each of its edges makes a circle.
func (s *search) follows(k int) bool {
	for _, e := range s.of[k] {
		contrary := edge{from: e.to, to: e.from, by: 1 - e.by}
		if _, how := s.with([]edge{contrary}); how == rest {
			return false
		}
	}
	return true
}
