package conv_test

import (
	"testing"

	"tenet/api"
	"tenet/conv"
	"tenet/reduce"
	"tenet/term"
)

// equal is a comparison of elements with all the fuel that there may be; it has to have an answer.
func (g gen) equal(t *testing.T, ctx []api.Bind, typ, a, b api.Term) bool {
	t.Helper()
	is, e := conv.Elements(g.tab, ctx, typ, a, b, api.MaxFuel)
	if e != api.OK {
		t.Fatalf("%s and %s of %s: %v", text(a), text(b), text(typ), e)
	}
	return is
}

// P6.4

// TestEquivalence compares all pairs of some elements of a type, some of which are equal.
func TestEquivalence(t *testing.T) {
	g, ctx := newGen(6), ground()
	classes := map[int]int{}
	for range 200 {
		typ := g.typ(ctx, 1+g.Intn(2))
		list := []api.Term{g.element(ctx, typ, 3), g.element(ctx, typ, 2), g.element(ctx, typ, 3)}
		class := []int{0, 1, 2}
		for range 4 {
			i := g.Intn(len(list))
			list, class = append(list, g.varied(ctx, g.varied(ctx, list[i]))), append(class, class[i])
		}
		answers := make([][]bool, len(list))
		for i := range list {
			for j := range list {
				answers[i] = append(answers[i], g.equal(t, ctx, typ, list[i], list[j]))
				if class[i] == class[j] && !answers[i][j] {
					t.Fatalf("%s and %s of %s are different", text(list[i]), text(list[j]), text(typ))
				}
			}
		}
		classes[equivalence(t, answers)]++
	}
	for k := 1; k <= 3; k++ {
		if classes[k] < 10 {
			t.Errorf("only %d families have %d different elements", classes[k], k)
		}
	}
}

// equivalence checks that a relation is an equivalence, and returns how many classes it has.
func equivalence(t *testing.T, is [][]bool) int {
	t.Helper()
	count := 0
	for i := range is {
		first := true
		for j := range is {
			first = first && (j >= i || !is[i][j])
			if !is[i][i] || is[i][j] != is[j][i] {
				t.Fatalf("no equivalence: %v", is)
			}
			for k := range is {
				if is[i][j] && is[j][k] && !is[i][k] {
					t.Fatalf("no equivalence: %v", is)
				}
			}
		}
		if first {
			count++
		}
	}
	return count
}

// TestTypesAreEquivalent does the same for types, also those that differ in small parts.
func TestTypesAreEquivalent(t *testing.T) {
	g, ctx := newGen(7), ground()
	for range 300 {
		list := []api.Term{g.typ(ctx, 2), g.typ(ctx, 2)}
		list = append(list, g.varied(ctx, list[0]), g.varied(ctx, g.varied(ctx, list[0])), g.varied(ctx, list[1]))
		answers := make([][]bool, len(list))
		for i := range list {
			for j := range list {
				is, e := conv.Types(g.tab, ctx, list[i], list[j], api.MaxFuel)
				if e != api.OK {
					t.Fatalf("%s and %s: %v", text(list[i]), text(list[j]), e)
				}
				answers[i] = append(answers[i], is)
			}
		}
		equivalence(t, answers)
		if !answers[0][2] || !answers[0][3] || !answers[1][4] {
			t.Fatalf("a type is different from itself by steps: %s, %s", text(list[0]), text(list[1]))
		}
	}
}

// TestEqualElementsGiveEqualResults fills equal elements in for a variable.
func TestEqualElementsGiveEqualResults(t *testing.T) {
	g, ctx := newGen(8), ground()
	used := 0
	for range 1500 {
		typ := g.typ(ctx, 1)
		a := g.element(ctx, typ, 3)
		b := g.varied(ctx, g.varied(ctx, a))
		inside := push(ctx, typ)
		of := g.typ(inside, 2)
		s := g.element(inside, of, 3)
		x, y := term.Fill(s, []api.Term{a}), term.Fill(s, []api.Term{b})
		if term.Alike(x, y) {
			continue
		}
		used++
		if !g.equal(t, ctx, term.Fill(of, []api.Term{a}), x, y) {
			t.Fatalf("%s and %s are equal, but not when they are filled into %s", text(a), text(b), text(s))
		}
		if is, e := conv.Types(g.tab, ctx, term.Fill(of, []api.Term{a}), term.Fill(of, []api.Term{b}), api.MaxFuel); !is || e != api.OK {
			t.Fatalf("%s and %s are equal, but not when they are filled into %s", text(a), text(b), text(of))
		}
	}
	if used < 30 {
		t.Errorf("only %d terms use the variable", used)
	}
}

// TestEqualNumbersHaveOneNumeral closes numbers by elements without variables: if they were equal, they have one value.
func TestEqualNumbersHaveOneNumeral(t *testing.T) {
	g, ctx := newGen(9), ground()
	by := make([]api.Term, len(ctx))
	for i, s := range []string{"NAT", "(lam 0 NAT NAT)", num(2), num(2), "(lam 0 NAT (con @Nat 1 star #0))", "(lam 0 (pi 0 NAT NAT) (app 0 #0 " + num(3) + "))", "(pair 0 NAT BOOL ONE NO)", "ONE", "star", "(lam 1 (eq 0 NAT " + num(2) + " " + num(2) + ") ONE)", "(pair 2 NAT (eq 0 NAT #0 " + num(2) + ") " + num(2) + " trivial)", "(class QUO " + num(4) + ")", "trivial", "true", "trivial", "trivial", num(6), "NO", "(lam 0 (type 0) (lam 0 #0 #0))", "(lam 0 unit " + num(5) + ")", "(lam 0 NAT (pair 0 BOOL NAT (app 0 @even #0) #0))", "(class MOD ONE)", "(lam 0 NAT (app 0 (app 0 @plus #0) #0))", "(lam 0 NAT #0)", "(lam 0 prop " + num(7) + ")"} {
		by[len(by)-1-i] = parse(s)
	}
	same, other := 0, 0
	for range 2000 {
		a, b := g.element(ctx, parse("NAT"), 4), g.element(ctx, parse("NAT"), 3)
		if g.Intn(3) == 0 {
			b = g.varied(ctx, a)
		}
		m, e1 := reduce.Numeral(g.tab, term.Fill(a, by), 2000)
		n, e2 := reduce.Numeral(g.tab, term.Fill(b, by), 2000)
		if e1 != api.OK || e2 != api.OK {
			continue // it uses a proof of the false proposition, which cannot be closed
		}
		switch {
		case !g.equal(t, ctx, parse("NAT"), a, b):
			other++
		case m == n:
			same++
		default:
			t.Fatalf("%s and %s are equal, but have the values %d and %d", text(a), text(b), m, n)
		}
	}
	if same < 300 || other < 300 {
		t.Errorf("only %d equal numbers, %d different ones", same, other)
	}
}

// P6.5

func TestStepsAreEqual(t *testing.T) {
	g, ctx := newGen(10), ground()
	rules := map[int]int{}
	for range 900 {
		typ := g.typ(ctx, 2)
		a := g.element(ctx, typ, 4)
		if s, rule, is := reduce.Step(g.tab, a); is {
			rules[rule]++
			if !g.equal(t, ctx, typ, a, s) || !g.equal(t, ctx, typ, s, a) {
				t.Fatalf("%s and its step %s are different", text(a), text(s))
			}
		}
		for _, p := range []api.Term{typ, g.prop(ctx, 3)} {
			if s, rule, is := reduce.Step(g.tab, p); is {
				rules[rule]++
				if same, e := conv.Types(g.tab, ctx, p, s, api.MaxFuel); !same || e != api.OK {
					t.Fatalf("%s and its step %s: %v, %v", text(p), text(s), same, e)
				}
			}
		}
	}
	for rule := api.RBeta; rule <= api.RClash; rule++ {
		if rules[rule] == 0 {
			t.Errorf("the rule %d was not used", rule)
		}
	}
}

func TestExpansionsAreEqual(t *testing.T) {
	g, ctx := newGen(11), ground()
	found := map[int]int{}
	for range 1500 {
		typ := g.typ(ctx, 2)
		a, h := g.element(ctx, typ, 3), g.head(typ)
		b := a
		switch h.Op {
		case api.TPi:
			b = marked(api.TLam, h.N, h.L[0], marked(api.TApp, h.N, up(a, 1), variable(0)))
		case api.TSigma:
			b = marked(api.TPair, h.N, h.L[0], h.L[1], node(api.TFst, a), node(api.TSnd, a))
		case api.TUnit:
			b = parse("star")
		}
		found[h.Op]++
		if !g.equal(t, ctx, typ, a, b) || !g.equal(t, ctx, typ, b, a) {
			t.Fatalf("%s and its expansion %s are different", text(a), text(b))
		}
	}
	for _, op := range []int{api.TPi, api.TSigma, api.TUnit} {
		if found[op] < 20 {
			t.Errorf("only %d expansions for the Op %d", found[op], op)
		}
	}
}

// P6.6

// reprovedAll returns a term with other proofs in place of all proof parts.
func (g gen) reprovedAll(ctx []api.Bind, t api.Term) api.Term {
	out := t
	for i := range t.L {
		in, part := g.inside(ctx, t, i), g.reprovedAll
		if term.IsProof(t, i) {
			part = g.reproved
		}
		out, _ = term.Put(out, []int{i}, part(in, t.L[i]))
	}
	return out
}

func TestProofsDoNotMatter(t *testing.T) {
	g, ctx := newGen(12), ground()
	other := 0
	for range 400 {
		typ, a, b, _ := g.two(ctx)
		x, y, z := g.reprovedAll(ctx, typ), g.reprovedAll(ctx, a), g.reprovedAll(ctx, b)
		want := g.equal(t, ctx, typ, a, b)
		if !want {
			other++
		}
		for _, c := range [][3]api.Term{{x, a, b}, {typ, y, b}, {typ, a, z}, {x, y, z}} {
			if g.equal(t, ctx, c[0], c[1], c[2]) != want {
				t.Fatalf("%s and %s of %s: with other proofs the answer is not %v", text(a), text(b), text(typ), want)
			}
		}
		if is, e := conv.Types(g.tab, ctx, typ, x, 0); !is || e != api.OK {
			t.Fatalf("%s and %s: %v, %v", text(typ), text(x), is, e)
		}
	}
	if other < 50 {
		t.Errorf("only %d different pairs", other)
	}
}

// P6.7 is tested with each comparison with a fuel (agrees, needs), and beside Differ.
