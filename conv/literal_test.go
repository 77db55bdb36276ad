package conv_test

import (
	"tenet/api"
	"tenet/level"
	"tenet/reduce"
	"tenet/table"
	"tenet/term"
)

// literal does the procedure of the chapter as it is written, by calls within calls: all types are made, and each head is counted.
type literal struct {
	tab  api.Table
	left int
}

// noFuel is what literal panics with.
type noFuel struct{}

// compared runs a comparison; it returns the answer, how many steps it needs, and whether the fuel is enough.
func compared(tab api.Table, run func(l *literal) bool) (same bool, steps int, ok bool) {
	defer func() {
		if r := recover(); r != nil {
			if _, is := r.(noFuel); !is {
				panic(r)
			}
			same, steps, ok = false, 0, false
		}
	}()
	l := &literal{tab, api.MaxFuel}
	same = run(l)
	return same, api.MaxFuel - l.left, true
}

func (l *literal) pay(steps int, code api.Errno) {
	if code != api.OK || steps > l.left {
		panic(noFuel{})
	}
	l.left -= steps
}

func (l *literal) head(s api.Term) api.Term {
	h, n, code := reduce.Head(l.tab, s, l.left)
	l.pay(n, code)
	return h
}

func (l *literal) spine(s api.Term) api.Term {
	h, n, code := reduce.Spine(l.tab, s, l.left)
	l.pay(n, code)
	return h
}

func (l *literal) types(ctx []api.Bind, a, b api.Term) bool {
	if term.Alike(a, b) {
		return true
	}
	a, b, same := l.unfolded(ctx, a, b)
	if same {
		return true
	}
	if a.Op != b.Op {
		return false
	}
	switch a.Op {
	case api.TUnit, api.TProp, api.TTrue, api.TFalse:
		return true
	case api.TType:
		return level.Equal(a.U[0], b.U[0])
	case api.TPi, api.TSigma:
		return a.N == b.N && l.types(ctx, a.L[0], b.L[0]) && l.types(push(ctx, a.L[0]), a.L[1], b.L[1])
	case api.TQuo:
		return l.types(ctx, a.L[0], b.L[0]) && l.types(push(ctx, a.L[0], up(a.L[0], 1)), a.L[1], b.L[1])
	case api.TData:
		param, _ := table.Param(l.tab, a.S, a.U)
		return equalNames(a, b) && l.elements(ctx, param, a.L[0], b.L[0])
	case api.TEq:
		return l.types(ctx, a.L[0], b.L[0]) && l.elements(ctx, a.L[0], a.L[1], b.L[1]) && l.elements(ctx, a.L[0], a.L[2], b.L[2])
	}
	_, same = l.neutral(ctx, a, b)
	return same
}

func equalNames(a, b api.Term) bool {
	if a.S != b.S || len(a.U) != len(b.U) {
		return false
	}
	for i := range a.U {
		if !level.Equal(a.U[i], b.U[i]) {
			return false
		}
	}
	return true
}

func (l *literal) elements(ctx []api.Bind, typ, a, b api.Term) bool {
	if term.Alike(a, b) {
		return true
	}
	typ = l.head(typ)
	switch typ.Op {
	case api.TUnit:
		return true
	case api.TPi:
		app := func(f api.Term) api.Term { return marked(api.TApp, typ.N, up(f, 1), variable(0)) }
		return l.elements(push(ctx, typ.L[0]), typ.L[1], app(a), app(b))
	case api.TSigma:
		if typ.N&api.First == 0 && !l.elements(ctx, typ.L[0], node(api.TFst, a), node(api.TFst, b)) {
			return false
		}
		second := term.Fill(typ.L[1], []api.Term{node(api.TFst, a)})
		return typ.N&api.Second != 0 || l.elements(ctx, second, node(api.TSnd, a), node(api.TSnd, b))
	case api.TType, api.TProp:
		return l.types(ctx, a, b)
	}
	a, b, same := l.unfolded(ctx, a, b)
	if same {
		return true
	}
	if a.Op == api.TCon && b.Op == api.TCon && a.S == b.S && a.N == b.N {
		arg, _ := table.Arg(l.tab, typ.S, typ.U, a.N, typ.L[0])
		return l.elements(ctx, arg, a.L[1], b.L[1])
	}
	if a.Op == api.TClass && b.Op == api.TClass {
		return l.elements(ctx, typ.L[0], a.L[1], b.L[1])
	}
	_, same = l.neutral(ctx, a, b)
	return same
}

// unfolded brings two terms to heads; true if they are seen to be equal before.
func (l *literal) unfolded(ctx []api.Bind, a, b api.Term) (api.Term, api.Term, bool) {
	a, b = l.spine(a), l.spine(b)
	for {
		x, stopsA := l.stop(a)
		y, stopsB := l.stop(b)
		if !stopsA && !stopsB {
			return a, b, false
		}
		if stopsA && stopsB && equalNames(x, y) {
			if _, same := l.neutral(ctx, a, b); same {
				return a, b, true
			}
		}
		i, j := table.Find(l.tab, x.S), table.Find(l.tab, y.S)
		if stopsA && (!stopsB || i >= j) {
			a = l.unfold(a)
		}
		if stopsB && (!stopsA || j >= i) {
			b = l.unfold(b)
		}
	}
}

// stop returns the constant in front of whose unfolding a term stops.
func (l *literal) stop(s api.Term) (api.Term, bool) {
	if reduce.Rule(l.tab, s) != api.RUnfold {
		return api.Term{}, false
	}
	path, _ := reduce.Place(l.tab, s)
	c, _, _ := term.At(s, path)
	return c, true
}

func (l *literal) unfold(s api.Term) api.Term {
	out, code := reduce.Times(l.tab, s, 1)
	l.pay(1, code)
	return l.spine(out)
}

func (l *literal) neutral(ctx []api.Bind, n, m api.Term) (api.Term, bool) {
	none := api.Term{}
	if n.Op != m.Op {
		return none, false
	}
	switch n.Op {
	case api.TVar:
		if n.N != m.N {
			return none, false
		}
		return up(ctx[len(ctx)-1-n.N].Type, n.N+1), true
	case api.TConst:
		typ, code := table.TypeOf(l.tab, n.S, n.U)
		return typ, equalNames(n, m) && code == api.OK
	case api.TApp, api.TFst, api.TSnd:
		return l.used(ctx, n, m)
	case api.TElim:
		return l.eliminated(ctx, n, m)
	case api.TOut:
		return l.out(ctx, n, m)
	case api.TCast:
		return n.L[1], l.types(ctx, n.L[0], m.L[0]) && l.types(ctx, n.L[1], m.L[1]) && l.elements(ctx, n.L[0], n.L[3], m.L[3])
	case api.TAbsurd:
		return n.L[0], l.types(ctx, n.L[0], m.L[0])
	}
	return none, false
}

func (l *literal) used(ctx []api.Bind, n, m api.Term) (api.Term, bool) {
	typ, same := l.neutral(ctx, n.L[0], m.L[0])
	if !same {
		return api.Term{}, false
	}
	typ = l.head(typ)
	if n.Op == api.TApp {
		if typ.Op != api.TPi || n.N == 0 && !l.elements(ctx, typ.L[0], n.L[1], m.L[1]) {
			return api.Term{}, false
		}
		return term.Fill(typ.L[1], n.L[1:]), true
	}
	if typ.Op != api.TSigma {
		return api.Term{}, false
	}
	if n.Op == api.TFst {
		return typ.L[0], true
	}
	return term.Fill(typ.L[1], []api.Term{node(api.TFst, n.L[0])}), true
}

func (l *literal) eliminated(ctx []api.Bind, n, m api.Term) (api.Term, bool) {
	none, last := api.Term{}, len(n.L)-1
	param, _ := table.Param(l.tab, n.S, n.U)
	data := api.Term{Op: api.TData, S: n.S, U: n.U, L: []api.Term{variable(0)}}
	if !equalNames(n, m) || n.N != m.N || !l.types(push(ctx, param, data), n.L[0], m.L[0]) {
		return none, false
	}
	for k := 0; n.N == 0 && k < last-2; k++ {
		in, typ, ok := kernel{l.tab}.method(ctx, n, k)
		if !ok || !l.elements(in, typ, n.L[1+k], m.L[1+k]) {
			return none, false
		}
	}
	if !l.elements(ctx, param, n.L[last-1], m.L[last-1]) {
		return none, false
	}
	_, same := l.neutral(ctx, n.L[last], m.L[last])
	return term.Fill(n.L[0], []api.Term{n.L[last], n.L[last-1]}), same
}

func (l *literal) out(ctx []api.Bind, n, m api.Term) (api.Term, bool) {
	none, q := api.Term{}, n.L[0]
	if n.N != m.N || !l.types(ctx, q, m.L[0]) || !l.types(push(ctx, q), n.L[1], m.L[1]) {
		return none, false
	}
	if n.N == 0 {
		motive, _ := term.Shift(n.L[1], 1, 1)
		typ := term.Fill(motive, []api.Term{node(api.TClass, up(q, 1), variable(0))})
		if !l.elements(push(ctx, l.head(q).L[0]), typ, n.L[2], m.L[2]) {
			return none, false
		}
	}
	_, same := l.neutral(ctx, n.L[4], m.L[4])
	return term.Fill(n.L[1], n.L[4:]), same
}
