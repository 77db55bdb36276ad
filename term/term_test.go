package term_test

import (
	"math"
	"math/rand"
	"slices"
	"strings"
	"testing"

	"tenet/api"
	"tenet/term"
)

// P3.1

func isForm(t *testing.T, x api.Term, want bool) {
	t.Helper()
	if term.Form(x) != want || term.Valid(x) != want {
		t.Errorf("Form and Valid of %+v are %v, %v, want %v", x, term.Form(x), term.Valid(x), want)
	}
}

func TestFormOfEachOp(t *testing.T) {
	ops := map[int]bool{}
	for _, k := range kinds {
		x := tm(t, k.text)
		ops[x.Op] = true
		if x.Op != k.op || len(x.L) != len(k.binds) {
			t.Errorf("%s has the Op %d and %d parts", k.text, x.Op, len(x.L))
		}
		isForm(t, x, true)
		isForm(t, node(api.TClass, node(api.TStar), x), true)
	}
	if len(ops) != 30 {
		t.Errorf("%d Ops are tested", len(ops))
	}
	for _, op := range []int{0, -1, 31, 32, math.MinInt, math.MaxInt} {
		isForm(t, node(op), false)
		isForm(t, node(op, v(0)), false)
	}
}

func TestFormOfParts(t *testing.T) {
	for _, k := range kinds {
		x := tm(t, k.text)
		more := clone(x)
		more.L = append(more.L, node(api.TUnit))
		isForm(t, more, k.op == api.TElim && len(more.L) <= api.MaxCases+3)
		if len(x.L) == 0 {
			continue
		}
		less := clone(x)
		less.L = less.L[:len(less.L)-1]
		isForm(t, less, k.op == api.TElim && len(less.L) >= 3)
		for i := range x.L {
			bad := clone(x)
			bad.L[i] = api.Term{}
			isForm(t, bad, false)
			bad.L[i] = node(api.TUnit, v(0))
			isForm(t, bad, false)
		}
	}
}

func TestFormOfNumbers(t *testing.T) {
	most := map[int]int{api.TVar: 2000, api.THole: 2000, api.TCon: 7, api.TLam: 1, api.TApp: 1, api.TAbsurd: 1, api.TOut: 1, api.TElim: 1, api.TPi: 3, api.TSigma: 3, api.TPair: 3}
	for _, k := range kinds {
		for _, n := range []int{math.MinInt, -1, 0, 1, 2, 3, 4, 7, 8, 1999, 2000, 2001, math.MaxInt} {
			x := tm(t, k.text)
			x.N = n
			isForm(t, x, 0 <= n && n <= most[k.op])
		}
	}
}

func TestFormOfNames(t *testing.T) {
	good := []string{"a", "Z", "_", "a.b", "a.", "a..b", "_9", "A1_.z", "x0123456789_.ABCxyz_____", strings.Repeat("a", 24)}
	bad := []string{"", ".", ".a", "9", "9a", "a b", " a", "a ", "a-b", "a{", "@a", "a@", "a:", "a/", "a`", "a[", "é", "aé", "a\x00", "a\xff", "a\n", "#", strings.Repeat("a", 25), strings.Repeat("a", 100000)}
	for _, k := range kinds {
		isNamed := slices.Contains([]int{api.TConst, api.TData, api.TCon, api.TElim}, k.op)
		x := tm(t, k.text)
		for _, s := range good {
			x.S = s
			isForm(t, x, isNamed)
		}
		for _, s := range bad {
			x.S = s
			isForm(t, x, !isNamed && s == "")
		}
	}
}

func TestFormOfLevels(t *testing.T) {
	one := []int{api.TType, api.TEq, api.TRefl, api.TSubst, api.TCast, api.TCoh, api.TQuo, api.TOut}
	some := []int{api.TConst, api.TData, api.TCon, api.TElim}
	for _, k := range kinds {
		for n := range 11 {
			x := tm(t, k.text)
			x.U = nil
			for i := range n {
				x.U = append(x.U, lv(i, i, 0))
			}
			isForm(t, x, n == 0 && !slices.Contains(one, k.op) || n == 1 && slices.Contains(one, k.op) || n <= 8 && slices.Contains(some, k.op))
			if !term.Form(x) {
				continue
			}
			for i := range n {
				for _, a := range []api.Level{lv(-1), lv(1001), lv(1, 0, 1), lv(1, 0, 2), lv(0, 1, 0, 0, 0), lv(0, 0, 0, 0, 0), lv(0, 1200, 0), lv(0, -1, 0), lv(0, 0, 1001), lv(0, 0, -1)} {
					bad := clone(x)
					bad.U[i] = a
					isForm(t, bad, false)
				}
				for _, a := range []api.Level{lv(0), lv(1000), lv(0, 1199, 1000), lv(1, 0, 0), lv(3, 0, 2, 1, 0), {Vars: []api.LVar{}}} {
					x.U[i] = a
					isForm(t, x, true)
				}
			}
		}
		x := tm(t, k.text)
		x.U, x.L = append([]api.Level{}, x.U...), append([]api.Term{}, x.L...)
		isForm(t, x, true)
	}
}

func TestValidIsSmall(t *testing.T) {
	for _, x := range []struct {
		t           api.Term
		nodes, high int
		valid       bool
	}{
		{deep(199, v(0)), 200, 200, true}, {deep(200, v(0)), 201, 201, false}, {node(api.TApp, v(0), deep(199, v(0))), 202, 201, false},
		{wide(1999), 1999, 0, true}, {node(api.TFst, wide(1999)), 2000, 0, true}, {wide(2001), 2001, 0, false}, {node(api.TFst, wide(2001)), 2002, 0, false},
		{node(api.TApp, wide(1999), api.Term{}), 2001, 0, false}, {deep(1<<16-1, v(0)), 1 << 16, 1 << 16, false},
	} {
		n, d := term.Size(x.t)
		if n != x.nodes || x.high > 0 && d != x.high || term.Valid(x.t) != x.valid {
			t.Errorf("a term of %d nodes and %d levels: %d, %d, %v", x.nodes, x.high, n, d, term.Valid(x.t))
		}
	}
	for _, x := range []api.Term{deep(200, v(0)), wide(2001), deep(1<<16-1, v(0))} {
		if !term.Form(x) {
			t.Error("a term that is too large has its form still")
		}
	}
}

// TestValidStops hands in terms whose trees are much larger than their memory.
func TestValidStops(t *testing.T) {
	high, x := api.Term{Op: api.TFst, L: make([]api.Term, 1)}, v(0)
	high.L[0] = high
	for range 150 {
		x = node(api.TApp, x, x)
	}
	for _, x := range []api.Term{high, x, node(0, high), node(api.TApp, high, x)} {
		if s, e := term.Format(x); term.Valid(x) || s != "" || e != api.ErrForm {
			t.Errorf("Format: %q, %v", s, e)
		}
	}
}

func TestSize(t *testing.T) {
	for _, x := range []struct {
		t     api.Term
		n, hi int
	}{
		{api.Term{}, 1, 1}, {v(-1), 1, 1}, {tm(t, "(app 0 (lam 0 unit #0) star)"), 5, 3}, {node(-7, node(99, v(0), v(0)), v(0)), 5, 3},
		{node(api.TUnit, v(0), node(api.TUnit, v(0))), 4, 3}, {node(0, make([]api.Term, 100000)...), 100001, 2},
	} {
		if n, d := term.Size(x.t); n != x.n || d != x.hi {
			t.Errorf("Size is %d, %d, want %d, %d", n, d, x.n, x.hi)
		}
	}
	someTerms(2000, anyTerm, func(_ *rand.Rand, x api.Term) {
		nodes, high := 0, 0
		eachNode(x, func(_ api.Term, path []int, _ int) {
			nodes++
			high = max(high, len(path)+1)
		})
		if n, d := term.Size(x); n != nodes || d != high {
			t.Errorf("Size(%+v) = %d, %d", x, n, d)
		}
	})
}

// P3.2

func TestBindsAndIsProof(t *testing.T) {
	for _, k := range kinds {
		x := tm(t, k.text)
		x.L = append(x.L, v(0))[:len(x.L)]
		for i := range x.L {
			if term.Binds(x, i) != int(k.binds[i]-'0') || term.IsProof(x, i) != (k.proofs[i] == 'y') {
				t.Errorf("%s, part %d: %d, %v", k.text, i, term.Binds(x, i), term.IsProof(x, i))
			}
		}
		for _, i := range []int{-1, len(x.L), len(x.L) + 1, math.MinInt, math.MaxInt} {
			if term.Binds(x, i) != 0 || term.IsProof(x, i) {
				t.Errorf("%s has a part %d", k.text, i)
			}
		}
	}
}

func TestPartsTooMany(t *testing.T) {
	for _, k := range kinds {
		x := tm(t, k.text)
		for range 3 {
			x.L = append(x.L, v(0))
		}
		for i := len(k.binds); i < len(x.L) && k.op != api.TElim; i++ {
			if term.Binds(x, i) != 0 || term.IsProof(x, i) {
				t.Errorf("%s with parts too many, part %d: %d, %v", k.text, i, term.Binds(x, i), term.IsProof(x, i))
			}
		}
		x.Op = 31
		for i := range x.L {
			if term.Binds(x, i) != 0 || term.IsProof(x, i) {
				t.Errorf("part %d of no Op: %d, %v", i, term.Binds(x, i), term.IsProof(x, i))
			}
		}
	}
	for _, binds := range []string{"", "2", "20", "200", "2300", "2333333330000", "23333333300000"} {
		x := node(api.TElim, make([]api.Term, len(binds))...)
		for i := range binds {
			if term.Binds(x, i) != int(binds[i]-'0') || term.IsProof(x, i) {
				t.Errorf("an elimination with %d parts, part %d: %d", len(binds), i, term.Binds(x, i))
			}
		}
	}
}

func TestPartsOfOddNodes(t *testing.T) {
	for _, k := range kinds {
		x := tm(t, k.text)
		for i := range x.L {
			y := clone(x)
			y.L = y.L[:i]
			if term.Binds(y, i) != 0 || term.IsProof(y, i) {
				t.Errorf("%s without part %d: %d, %v", k.text, i, term.Binds(y, i), term.IsProof(y, i))
			}
		}
	}
	if term.IsProof(api.Term{Op: api.TApp, N: 3, L: []api.Term{v(0), v(0)}}, 1) {
		t.Error("the argument of a function with another mark than 1 is no proof")
	}
	x := node(api.TOut, v(0), v(0), v(0), v(0))
	if term.Binds(x, 1) != 1 || term.Binds(x, 2) != 1 || !term.IsProof(x, 3) {
		t.Error("the parts that are there are those of the Op")
	}
}
