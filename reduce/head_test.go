package reduce_test

import (
	"strings"
	"testing"

	"tenet/api"
	"tenet/reduce"
)

// P5.2

// heads are terms, how many steps lead to their heads, to the spines, and these.
var heads = []struct {
	from        string
	steps       int
	head        string
	spineSteps  int
	spine       string
	fuelIsSpent bool // Head is out of fuel
}{
	{from: "#0", head: "#0", spine: "#0"},
	{from: "@hidden", head: "@hidden", spine: "@hidden"},
	{from: "(app 0 @claimed #0)", head: "(app 0 @claimed #0)", spine: "(app 0 @claimed #0)"},
	{"(app 0 (lam 0 NAT #0) @two)", 6, "(con @Nat 1 star (elim @Nat 0 NAT ONE (con @Nat 1 star #0) star ZERO))", 1, "@two", false},
	{"(app 0 (app 0 @plus ONE) #7)", 4, "(con @Nat 1 star (elim @Nat 0 NAT #10 (con @Nat 1 star #0) star ZERO))", 0, "(app 0 (app 0 @plus ONE) #7)", false},
	{"(app 0 (app 0 @plus #7) ONE)", 3, "(elim @Nat 0 NAT ONE (con @Nat 1 star #0) star #7)", 0, "(app 0 (app 0 @plus #7) ONE)", false},
	{"(cast 0 (app 0 (app 0 @id{1} (type 0)) unit) @claimed #0 #1)", 3, "(cast 0 unit @claimed #0 #1)", 0, "(cast 0 (app 0 (app 0 @id{1} (type 0)) unit) @claimed #0 #1)", false},
	{"(eq 0 NAT @claimed @two)", 5, "(eq 0 NAT @claimed (con @Nat 1 star (elim @Nat 0 NAT ONE (con @Nat 1 star #0) star ZERO)))", 0, "(eq 0 NAT @claimed @two)", false},
	{"(eq 0 NAT (fst (pair 0 unit unit @claimed #0)) @two)", 6, "(eq 0 NAT @claimed (con @Nat 1 star (elim @Nat 0 NAT ONE (con @Nat 1 star #0) star ZERO)))", 1, "(eq 0 NAT @claimed @two)", false},
	{"(eq 0 NAT ZERO (app 0 (app 0 @plus ONE) #7))", 5, "false", 0, "(eq 0 NAT ZERO (app 0 (app 0 @plus ONE) #7))", false},
	{"(app 0 (lam 0 unit (app 0 #0 #0)) (lam 0 unit (app 0 #0 #0)))", 0, "", 0, "", true},
}

func TestHeadsAndSpines(t *testing.T) {
	tab := basic()
	for _, c := range heads {
		s := parse(c.from)
		if c.fuelIsSpent {
			isResult(t, "Head", tab, s, api.MaxFuel, "", 0, api.ErrFuel)
			isResult(t, "Spine", tab, s, api.MaxFuel, "", 0, api.ErrFuel)
			continue
		}
		for _, fuel := range []int{c.steps, c.steps + 1, api.MaxFuel, api.MaxFuel + 1, 1 << 40} {
			isResult(t, "Head", tab, s, fuel, c.head, c.steps, api.OK)
		}
		for _, fuel := range []int{c.spineSteps, c.spineSteps + 1, api.MaxFuel + 1} {
			isResult(t, "Spine", tab, s, fuel, c.spine, c.spineSteps, api.OK)
		}
		for _, fuel := range []int{c.steps - 1, 0, -1, -1 << 40} {
			if c.steps > 0 {
				isResult(t, "Head", tab, s, fuel, "", 0, api.ErrFuel)
			} else {
				isResult(t, "Head", tab, s, fuel, c.head, 0, api.OK)
			}
		}
		if c.spineSteps > 0 {
			isResult(t, "Spine", tab, s, c.spineSteps-1, "", 0, api.ErrFuel)
		}
	}
}

// isResult checks a call of Head or Spine; a text that is empty is that of the zero term.
func isResult(t *testing.T, call string, tab api.Table, s api.Term, fuel int, want string, steps int, code api.Errno) {
	t.Helper()
	f := reduce.Head
	if call == "Spine" {
		f = reduce.Spine
	}
	got, n, e := f(tab, s, fuel)
	wanted := api.Term{}
	if want != "" {
		wanted = parse(want)
	}
	if !equal(got, wanted) || n != steps || e != code {
		t.Errorf("%s of %s with fuel %d: %s, %d, %v, want %s, %d, %v", call, text(s), fuel, text(got), n, e, want, steps, code)
	}
	isNew(t, call, got, tab, s)
}

func TestTimes(t *testing.T) {
	tab := basic()
	s := parse("(app 0 (app 0 @plus ONE) #7)")
	for n, want := range []string{
		"(app 0 (app 0 @plus ONE) #7)",
		"(app 0 (app 0 " + plus + " ONE) #7)",
		"(app 0 (lam 0 NAT (elim @Nat 0 NAT #3 (con @Nat 1 star #0) star ONE)) #7)",
		"(elim @Nat 0 NAT #10 (con @Nat 1 star #0) star ONE)",
		"(con @Nat 1 star (elim @Nat 0 NAT #10 (con @Nat 1 star #0) star ZERO))",
	} {
		got, e := reduce.Times(tab, s, n)
		if e != api.OK || text(got) != text(parse(want)) {
			t.Errorf("Times %d: %s, %v, want %s", n, text(got), e, want)
		}
		isNew(t, "Times", got, tab, s)
	}
	for _, n := range []int{-1, -1 << 40, 5, 6, api.MaxFuel, api.MaxFuel + 1, 1 << 40} {
		if got, e := reduce.Times(tab, s, n); e != api.ErrRange || !isZero(got) {
			t.Errorf("Times %d: %s, %v", n, text(got), e)
		}
	}
	loop := parse("(app 0 (lam 0 unit (app 0 #0 #0)) (lam 0 unit (app 0 #0 #0)))")
	if got, e := reduce.Times(tab, loop, api.MaxFuel); e != api.OK || !equal(got, loop) {
		t.Errorf("Times of a loop: %s, %v", text(got), e)
	}
	if _, e := reduce.Times(tab, loop, api.MaxFuel+1); e != api.ErrRange {
		t.Errorf("Times of a loop, too often: %v", e)
	}
}

// long returns a term with an exact number of steps to star.
func long(steps int) api.Term {
	// Each constructor takes three steps, and the last one a single step.
	n := (steps - 1) / 3
	s := api.Term{Op: api.TElim, S: "Nat", L: []api.Term{parse("unit"), parse("star"), parse("(app 0 (lam 0 unit (app 0 (lam 0 unit #0) #0)) #0)"), parse("star"), number(n)}}
	for range steps - 3*n - 1 {
		s = node(api.TApp, parse("(lam 0 unit #0)"), s)
	}
	return s
}

// TestMostFuel is about terms with up to MaxFuel steps, and one more.
func TestMostFuel(t *testing.T) {
	tab := basic()
	for _, steps := range []int{1, 2, 3, 1000, api.MaxFuel - 1, api.MaxFuel} {
		s := long(steps)
		isResult(t, "Head", tab, s, steps-1, "", 0, api.ErrFuel)
		for _, fuel := range []int{steps, api.MaxFuel, api.MaxFuel + 1} {
			isResult(t, "Head", tab, s, fuel, "star", steps, api.OK)
			isResult(t, "Spine", tab, s, fuel, "star", steps, api.OK)
		}
		if got, e := reduce.Times(tab, s, steps); e != api.OK || text(got) != "star" {
			t.Errorf("Times %d: %v", steps, e)
		}
	}
	for _, fuel := range []int{api.MaxFuel, api.MaxFuel + 1, 1 << 40} {
		isResult(t, "Head", tab, long(api.MaxFuel+1), fuel, "", 0, api.ErrFuel)
	}
}

// TestNoForm is about what has not its form, or is too large.
func TestNoForm(t *testing.T) {
	tab := basic()
	for _, s := range []api.Term{{}, {Op: 99}, node(api.TFst), node(api.TFst, variable(api.MaxNodes+1)), sized(api.MaxTerm + 1)} {
		isResult(t, "Head", tab, s, 10, "", 0, api.ErrForm)
		isResult(t, "Spine", tab, s, -1, "", 0, api.ErrForm)
		for _, n := range []int{-1, 0, api.MaxFuel + 1} {
			if got, e := reduce.Times(tab, s, n); e != api.ErrForm || !isZero(got) {
				t.Errorf("Times: %v", e)
			}
		}
		if n, e := reduce.Numeral(tab, s, 10); e != api.ErrForm || n != 0 {
			t.Errorf("Numeral: %d, %v", n, e)
		}
	}
	s := sized(api.MaxTerm)
	if got, n, e := reduce.Head(tab, s, 0); !equal(got, s) || n != 0 || e != api.OK {
		t.Errorf("Head of the greatest term: %d, %v", n, e)
	}
}

// TestMostNodes is about steps that make terms of about MaxTerm nodes: the whole term counts.
func TestMostNodes(t *testing.T) {
	tab := basic()
	for _, around := range []int{0, 1, 3} {
		for _, n := range []int{api.MaxTerm - 1, api.MaxTerm, api.MaxTerm + 1, api.MaxTerm + 100} {
			s := deep(around, doubling(8000, n-around))
			got, e := reduce.Times(tab, s, 1)
			_, _, head := reduce.Head(tab, s, 10)
			step, _, ok := reduce.Step(tab, s)
			if !ok || size(step) != n {
				t.Fatalf("Step makes %d nodes, want %d", size(step), n)
			}
			if n <= api.MaxTerm && (e != api.OK || head != api.OK || !equal(got, step)) {
				t.Errorf("%d nodes: %v, %v", n, e, head)
			}
			if n > api.MaxTerm && (e != api.ErrFuel || head != api.ErrFuel || !isZero(got)) {
				t.Errorf("%d nodes: %v, %v", n, e, head)
			}
		}
	}
}

// doubling returns a term that steps, by a function that uses an argument of some nodes twice, to one of n nodes.
func doubling(argument, n int) api.Term {
	rest := sized(n - 2*argument - 2)
	body := node(api.TApp, node(api.TApp, rest, variable(0)), variable(0))
	return node(api.TApp, node(api.TLam, parse("unit"), body), sized(argument))
}

// TestWhatComesFirst: Times tells a term that is too large, or that there are fewer steps, whatever comes first.
func TestWhatComesFirst(t *testing.T) {
	tab := basic()
	big := node(api.TApp, parse("(lam 0 unit (app 0 #0 #0))"), sized(11000))
	if _, e := reduce.Times(tab, big, api.MaxFuel); e != api.ErrFuel {
		t.Errorf("a large term first: %v", e)
	}
	if _, e := reduce.Times(tab, node(api.TApp, parse("(lam 0 unit star)"), big), 2); e != api.ErrRange {
		t.Errorf("no step first: %v", e)
	}
	if _, e := reduce.Times(tab, big, 0); e != api.OK {
		t.Errorf("no step wanted: %v", e)
	}
}

// TestHugeSteps: a term that is far too large is not made, also not where what is put in would be shifted each time.
func TestHugeSteps(t *testing.T) {
	tab := basic()
	wide, nested := variable(0), variable(1900)
	for i := range 1900 {
		wide = node(api.TApp, wide, variable(0))
		nested = node(api.TLam, parse("unit"), node(api.TApp, nested, variable(1900-i)))
	}
	open := variable(1)
	for range 3500 {
		open = node(api.TApp, open, variable(2))
	}
	for _, c := range []struct {
		body, a api.Term
		want    api.Errno
	}{{wide, open, api.ErrFuel}, {nested, open, api.ErrFuel}, {wide, sized(9000), api.ErrFuel}, {wide, node(api.TFst, variable(0)), api.OK}} {
		s := node(api.TApp, node(api.TLam, parse("unit"), c.body), c.a)
		for range 20 {
			if _, _, e := reduce.Head(tab, s, 1); e != c.want {
				t.Fatalf("Head: %v, want %v", e, c.want)
			}
			if reduce.IsHead(tab, s) {
				t.Fatal("a term with a step is a head")
			}
		}
	}
}

// TestHeadsAreTheSteps compares with steps that are done one by one, on many terms.
func TestHeadsAreTheSteps(t *testing.T) {
	r := newRandom(2)
	n := naive{basic()}
	count := map[int]int{}
	for range 8000 {
		s := r.term(2 + r.Intn(4))
		if r.Intn(3) == 0 {
			s = program(r)
		}
		sameHeads(t, n, s, r.Intn(30), count)
	}
	for steps := range 10 {
		if count[steps] < 20 {
			t.Errorf("only %d terms have %d steps", count[steps], steps)
		}
	}
}

// sameHeads checks Head, Spine and Times of a term.
func sameHeads(t *testing.T, n naive, s api.Term, fuel int, count map[int]int) {
	t.Helper()
	for _, unfold := range []bool{true, false} {
		want, steps, code := n.head(s, fuel, unfold)
		f := reduce.Head
		if !unfold {
			f = reduce.Spine
		}
		got, k, e := f(n.tab, s, fuel)
		if !equal(got, want) || k != steps || e != code {
			t.Fatalf("Head (unfolding %v) of %s with fuel %d: %s, %d, %v, want %s, %d, %v", unfold, text(s), fuel, text(got), k, e, text(want), steps, code)
		}
		if unfold && code == api.OK {
			count[steps]++
		}
	}
	x := s
	for k := range 4 {
		got, e := reduce.Times(n.tab, s, k)
		if e != api.OK || !equal(got, x) {
			t.Fatalf("Times %d of %s: %s, %v, want %s", k, text(s), text(got), e, text(x))
		}
		d, ok := n.step(x)
		if !ok {
			break
		}
		x = d.to
	}
}

// program returns a term that computes with numbers, by definitions, casts and pairs.
func program(r random) api.Term {
	return parse(sum(r, 3))
}

func sum(r random, n int) string {
	if n == 0 {
		return r.pick("ZERO", "ONE", "@two", "#0", "@claimed", num(3))
	}
	a, b := sum(r, n-1), sum(r, n-1)
	switch r.Intn(6) {
	case 0:
		return "(app 0 (app 0 @times " + a + ") " + b + ")"
	case 1:
		return "(cast 0 NAT NAT #1 " + a + ")"
	case 2:
		return "(fst (pair 0 NAT NAT " + a + " " + b + "))"
	case 3:
		return "(out 0 0 (quo 0 NAT true star star star) NAT " + a + " star (cast 0 (quo 0 NAT true star star star) (quo 0 NAT true star star star) #2 (class (quo 0 NAT true star star star) " + b + ")))"
	case 4:
		return "(elim @Bool 0 NAT " + a + " " + b + " star (elim @Nat 0 BOOL YES NO star " + strings.Replace(a, "@claimed", "ONE", 1) + "))"
	}
	return "(app 0 (app 0 @plus " + a + ") " + b + ")"
}

// TestArgumentsStay: nothing is changed.
func TestArgumentsStay(t *testing.T) {
	tab := basic()
	before := clonedTable(tab)
	r := newRandom(3)
	for range 300 {
		s := r.term(4)
		keep := cloned(s)
		reduce.Head(tab, s, 20)
		reduce.Spine(tab, s, 20)
		reduce.Times(tab, s, 2)
		reduce.Numeral(tab, s, 20)
		if !equal(s, keep) {
			t.Fatalf("%s is changed", text(keep))
		}
	}
	for i, d := range tab.Decls {
		if !equal(d.Body, before.Decls[i].Body) || !equal(d.Type, before.Decls[i].Type) || !equal(d.Param, before.Decls[i].Param) {
			t.Errorf("%s is changed", d.Name)
		}
		for k, c := range d.Cons {
			if !equal(c.Arg, before.Decls[i].Cons[k].Arg) {
				t.Errorf("%s is changed", d.Name)
			}
		}
	}
}
