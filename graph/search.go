package graph

import (
	"slices"

	"tenet/api"
)

// end is how a search ends.
type end int

const (
	rest   end = iota // every edge holds
	circle            // what was put in asks again for more as soon as it holds: there is no solution
)

// edge says that the number of to is at least the number of from plus by.
type edge struct {
	from, to, by, con int
}

// search holds numbers for n + 1 nodes, so that the edges of the constraints that are on hold. The nodes are the variables and, as the last one, 0 itself: so a bound from above is an edge as any other, and only the differences between the numbers count.
type search struct {
	of   [][]edge // by constraint
	out  [][]edge // by the node from which they go
	on   []bool   // by constraint
	vals []int    // by node
}

// begin returns a search for n variables where no constraint is on yet. Behind those of l it has a constraint that is always on: that no variable is below 0.
func begin(n int, l []api.LCon) *search {
	s := &search{of: make([][]edge, len(l)), out: make([][]edge, n+1), on: make([]bool, len(l)+1), vals: make([]int, n+1)}
	for k, c := range l {
		s.of[k] = edges(n, c, k)
		for _, e := range s.of[k] {
			s.out[e.from] = append(s.out[e.from], e)
		}
	}
	for v := range n {
		s.out[n] = append(s.out[n], edge{from: n, to: v, con: len(l)})
	}
	s.on[len(l)] = true
	return s
}

// edges returns the edges that say together what c says, the constraint numbered k. All of them end in one node.
func edges(n int, c api.LCon, k int) []edge {
	to, less := n, c.B.Const
	if len(c.B.Vars) == 1 {
		to, less = c.B.Vars[0].V, c.B.Vars[0].Plus
	}
	list := []edge{{from: n, to: to, by: c.A.Const - less, con: k}}
	for _, x := range c.A.Vars {
		list = append(list, edge{from: x.V, to: to, by: x.Plus - less, con: k})
	}
	return list
}

// addAll turns the constraints from index first up to the index behind on, and ends with the first circle.
func (s *search) addAll(first, behind int) end {
	for k := first; k < behind; k++ {
		if s.add(k) == circle {
			return circle
		}
	}
	return rest
}

// add turns the constraint k on, if that makes no circle; else it changes nothing.
func (s *search) add(k int) end {
	vals, how := s.with(s.of[k])
	if how == rest {
		s.vals, s.on[k] = vals, true
	}
	return how
}

// with returns numbers for which further edges, which all end in one node, hold too. No number is raised more than it must: so from the least solution comes the least one of both.
func (s *search) with(more []edge) ([]int, end) {
	if !asks(s.vals, more) {
		return s.vals, rest
	}
	vals := slices.Clone(s.vals)
	to := more[0].to
	for _, e := range more {
		vals[to] = max(vals[to], vals[e.from]+e.by)
	}
	how := s.spread(vals, to, more)
	return vals, how
}

// spread raises what the edges ask for since the node start was raised. Without the edges of watch, those that are on have a solution: so the raising comes to rest, or the node start itself would have to rise again by watch.
func (s *search) spread(vals []int, start int, watch []edge) end {
	how := rest
	line, waits := []int{start}, make([]bool, len(vals))
rising:
	for len(line) > 0 {
		at := line[0]
		line = line[1:]
		waits[at] = false
		for _, e := range s.out[at] {
			if !s.on[e.con] || vals[at]+e.by <= vals[e.to] {
				continue
			}
			vals[e.to] = vals[at] + e.by
			if !waits[e.to] {
				waits[e.to] = true
				line = append(line, e.to)
			}
		}
		if asks(vals, watch) {
			how = circle
			break rising
		}
	}
	return how
}

// asks reports whether some edge does not hold.
func asks(vals []int, list []edge) bool {
	return slices.ContainsFunc(list, func(e edge) bool { return vals[e.from]+e.by > vals[e.to] })
}

// solution returns the numbers of the variables.
func (s *search) solution() []int {
	n := len(s.vals) - 1
	var list []int
	for _, v := range s.vals[:n] {
		list = append(list, v-s.vals[n])
	}
	return list
}
