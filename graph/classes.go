package graph

import (
	"slices"

	"tenet/api"
)

// unreached is the number of a node that no path has reached yet. It is below the sum of any path.
const unreached = -1 << 62

// place is where a variable stands in the least solution: variables of one group differ by the same number in each solution.
type place struct {
	group, val int
}

// Classes is described in P2.4.
func Classes(n int, l []api.LCon) ([][]int, api.Errno) {
	if !Valid(n, l) {
		return nil, api.ErrForm
	}
	s := begin(n, l)
	if s.addAll(0, len(l)) == circle {
		return nil, api.ErrCircle
	}
	group := s.groups()
	at := map[place]int{}
	var sets [][]int
	for v := range n {
		p := place{group[v], s.vals[v]}
		k, known := at[p]
		if !known {
			k = len(sets)
			at[p] = k
			sets = append(sets, nil)
		}
		sets[k] = append(sets[k], v)
	}
	return slices.DeleteFunc(sets, func(set []int) bool { return len(set) < 2 }), api.OK
}

// Bound is described in P2.4.
func Bound(n int, l []api.LCon, v int) (int, bool, api.Errno) {
	if !Valid(n, l) {
		return 0, false, api.ErrForm
	}
	if v < 0 || v >= n {
		return 0, false, api.ErrRange
	}
	s := begin(n, l)
	if s.addAll(0, len(l)) == circle {
		return 0, false, api.ErrCircle
	}
	// The greatest sum of a path from v to 0 says how far v is below 0 at most, turned around.
	sums := slices.Repeat([]int{unreached}, n+1)
	sums[v] = 0
	s.spread(sums, v, nil)
	if sums[n] == unreached {
		return 0, false, api.OK
	}
	return -sums[n], true, api.OK
}

// groups numbers the nodes so that two have one number if each reaches the other by tight edges, those that hold with nothing to spare. A circle of them has the sum 0, so none of its nodes can rise without the others.
func (s *search) groups() []int {
	nodes := len(s.vals)
	ahead, back := make([][]int, nodes), make([][]int, nodes)
	for _, list := range s.out {
		for _, e := range list {
			if s.vals[e.from]+e.by == s.vals[e.to] {
				ahead[e.from] = append(ahead[e.from], e.to)
				back[e.to] = append(back[e.to], e.from)
			}
		}
	}
	var order []int
	seen := make([]bool, nodes)
	for v := range nodes {
		order = walk(ahead, v, seen, order)
	}
	group := make([]int, nodes)
	clear(seen)
	for _, v := range slices.Backward(order) {
		for _, w := range walk(back, v, seen, nil) {
			group[w] = v
		}
	}
	return group
}

// walk appends the node at and all that it leads to, but what is seen already, each behind what it leads to.
func walk(next [][]int, at int, seen []bool, list []int) []int {
	if seen[at] {
		return list
	}
	seen[at] = true
	for _, to := range next[at] {
		list = walk(next, to, seen, list)
	}
	return append(list, at)
}
