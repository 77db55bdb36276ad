package conv_test

import (
	"strings"
	"testing"

	"tenet/api"
	"tenet/conv"
	"tenet/reduce"
	"tenet/term"
)

// P6.2

// vec is the text of an eliminator of vectors of a length, with a motive.
func vec(motive, nil, cons, length, element string) string {
	return "(elim @Vec 0 " + motive + " " + nil + " " + cons + " " + length + " " + element + ")"
}

func TestNeutralTypes(t *testing.T) {
	lemma := "(con @Nat 1 star (fst (snd (snd #0))))"
	for _, x := range []struct{ a, b, want string }{
		{"#22", "#22", "NAT"},
		{"#17", "#17", "#24"},
		{"#8", "#8", "(app 0 #23 #22)"},
		{"@plus", "@plus", "(pi 0 NAT (pi 0 NAT NAT))"},
		{"@claimed", "@claimed", "NAT"},
		{"@hidden", "@hidden", "NAT"},
		{"@any{u3}", "@any{u3}", "(type u3)"},
		{"@id{u0+1}", "@id{u0+1}", "(pi 0 (type u0+1) (pi 0 #0 #1))"},
		{"(app 0 #20 #22)", "(app 0 #20 #22)", "NAT"},
		{"(app 0 #20 @two)", "(app 0 #20 " + num(2) + ")", "NAT"},
		{"(app 0 #1 @two)", "(app 0 #1 " + num(2) + ")", "(app 0 #23 @two)"}, // the first one's argument
		{"(app 0 #1 " + num(2) + ")", "(app 0 #1 @two)", "(app 0 #23 " + num(2) + ")"},
		{"(app 1 #15 #9)", "(app 1 #15 (absurd 1 (eq 0 NAT #22 #21) #9))", "NAT"},
		{"(app 0 (app 0 #6 NAT) #22)", "(app 0 (app 0 #6 (data @Nat #16)) #22)", "NAT"},
		{"(app 0 #2 #22)", "(app 0 #2 #22)", "NAT"}, // the type of the function has a step
		{"(fst #18)", "(fst #18)", "NAT"},
		{"(snd #18)", "(snd #18)", "BOOL"},
		{"(snd #14)", "(snd #14)", "(eq 0 NAT (fst #14) #22)"},
		{"(snd (app 0 #4 @two))", "(snd (app 0 #4 " + num(2) + "))", "NAT"},
		{"(elim @Nat 0 (data @Vec #0) #9 #9 star #22)", "(elim @Nat 0 (data @Vec #0) #9 #9 #16 #22)", "(data @Vec #22)"},
		{vec("(data @Vec #1)", "#15", "#15", "#22", "#12"), vec("(data @Vec #1)", "#15", "#15", "#22", "#12"), "(data @Vec #22)"},
		{vec("NAT", "ZERO", lemma, "#22", "#12"), vec("(data @Nat star)", "ZERO", lemma, "#22", "#12"), "NAT"},
		{"(out 0 0 QUO (eq 0 QUO #0 #0) trivial trivial #13)", "(out 3 0 QUO (eq 1 QUO #0 #0) trivial star #13)", "(eq 0 QUO #13 #13)"},
		{"(out 0 1 QUO (eq 0 QUO #0 #0) #0 trivial #13)", "(out 0 1 QUO (eq 0 QUO #0 #0) #1 trivial #13)", "(eq 0 QUO #13 #13)"},
		{"(cast 0 #24 NAT #9 #17)", "(cast 3 #24 (data @Nat star) #10 #17)", "NAT"},
		{"(cast 0 NAT #24 #9 #22)", "(cast 0 NAT #24 #9 (app 0 (lam 0 NAT #0) #22))", "#24"},
		{"(absurd 0 NAT #9)", "(absurd 0 NAT trivial)", "NAT"},
	} {
		typ, is, e := conv.Neutral(basic(), ground(), parse(x.a), parse(x.b), 100)
		if e != api.OK || !is || !term.Same(typ, parse(x.want)) {
			t.Errorf("%s and %s: %s, %v, %v, want %s", x.a, x.b, text(typ), is, e, x.want)
		}
	}
}

func TestNeutralDifferent(t *testing.T) {
	elim := func(mark, motive, yes, no, p, e string) string {
		return "(elim @Bool " + mark + " " + motive + " " + yes + " " + no + " " + p + " " + e + ")"
	}
	out := func(mark, q, motive, value, e string) string {
		return "(out 0 " + mark + " " + q + " " + motive + " " + value + " trivial " + e + ")"
	}
	for _, x := range []struct{ a, b string }{
		{"#22", "#21"}, {"#22", "@claimed"}, {"@claimed", "@hidden"}, {"@any{0}", "@any{1}"}, {"@any{u0}", "@any{u1}"},
		{"(app 0 #20 #22)", "(app 0 #20 #21)"}, {"(app 0 #20 #22)", "(app 0 #1 #22)"}, {"(app 0 #20 #22)", "#20"}, {"(app 0 (app 0 #6 NAT) #22)", "(app 0 (app 0 #6 BOOL) #22)"},
		{"(fst #18)", "(snd #18)"}, {"(fst #18)", "(fst #14)"}, {"(snd #18)", "(snd (app 0 #4 #22))"},
		{elim("0", "NAT", "#25", "#25", "star", "#7"), elim("0", "BOOL", "#25", "#25", "star", "#7")},
		{elim("0", "NAT", "#25", "#25", "star", "#7"), elim("0", "NAT", "#25", "#24", "star", "#7")},
		{elim("0", "NAT", "#25", "#25", "star", "#7"), elim("0", "NAT", "#24", "#25", "star", "#7")},
		{elim("0", "NAT", "#25", "#25", "star", "#7"), elim("1", "NAT", "#25", "#25", "star", "#7")},
		{elim("0", "NAT", "#25", "#25", "star", "#7"), elim("0", "NAT", "#25", "#25", "star", "(snd #18)")},
		{elim("0", "NAT", "#25", "#25", "star", "#7"), "(elim @Nat 0 NAT #25 #25 star #7)"},
		{"(elim @Box{0} 0 NAT ZERO NAT #9)", "(elim @Box{1} 0 NAT ZERO NAT #9)"},
		{"(elim @Box{0} 0 NAT ZERO NAT #9)", "(elim @Box{0} 0 NAT ZERO BOOL #9)"},
		{"(elim @None 0 NAT ZERO star #9)", "(elim @None 0 NAT ZERO ZERO star #9)"},
		{out("0", "QUO", "NAT", "#23", "#13"), out("0", "MOD", "NAT", "#23", "#13")},
		{out("0", "QUO", "NAT", "#23", "#13"), out("0", "QUO", "BOOL", "#23", "#13")},
		{out("0", "QUO", "NAT", "#23", "#13"), out("0", "QUO", "NAT", "#22", "#13")},
		{out("0", "QUO", "NAT", "#23", "#13"), out("1", "QUO", "NAT", "#23", "#13")},
		{out("0", "QUO", "NAT", "#23", "#13"), out("0", "QUO", "NAT", "#23", "(absurd 0 QUO #9)")},
		{"(cast 0 #24 NAT #9 #17)", "(cast 0 #24 BOOL #9 #17)"}, {"(cast 0 NAT #24 #9 #22)", "(cast 0 BOOL #24 #9 #22)"}, {"(cast 0 NAT #24 #9 #22)", "(cast 0 NAT #24 #9 #21)"},
		{"(absurd 0 NAT #9)", "(absurd 0 BOOL #9)"},
		// What is no neutral term is different, also from itself.
		{"(lam 0 NAT #0)", "(lam 0 NAT #0)"}, {"star", "star"}, {"ZERO", "ZERO"}, {"(class QUO #22)", "(class QUO #22)"}, {"(pair 0 NAT BOOL #22 #7)", "(pair 0 NAT BOOL #22 #7)"},
		{"NAT", "NAT"}, {"unit", "unit"}, {"prop", "prop"}, {"(type 0)", "(type 0)"}, {"(pi 0 NAT NAT)", "(pi 0 NAT NAT)"}, {"(sig 0 NAT NAT)", "(sig 0 NAT NAT)"}, {"QUO", "QUO"}, {"true", "true"}, {"(eq 0 #24 #17 #17)", "(eq 0 #24 #17 #17)"},
		{"trivial", "trivial"}, {"(refl 0 NAT #22)", "(refl 0 NAT #22)"}, {"(coh 0 NAT #9 #22)", "(coh 0 NAT #9 #22)"}, {"(subst 0 NAT true #22 #22 #9 trivial)", "(subst 0 NAT true #22 #22 #9 trivial)"},
		{"?0", "?0"}, {"proof", "proof"},
	} {
		for range 2 {
			typ, is, e := conv.Neutral(basic(), ground(), parse(x.a), parse(x.b), 100)
			if e != api.OK || is || !term.Same(typ, api.Term{}) {
				t.Errorf("%s and %s: %s, %v, %v", x.a, x.b, text(typ), is, e)
			}
			x.a, x.b = x.b, x.a
		}
	}
}

// Values of TOuts and methods of TElims are compared in contexts of their own: there the variables have types that let see nothing, or much.
func TestNeutralContexts(t *testing.T) {
	pairs := "(quo 0 (sig 0 NAT unit) true trivial trivial trivial)"
	tab := with(basic(), family("Wrap", "(sig 0 NAT unit)", "(sig 0 NAT unit)", "(pi 0 unit (data @Wrap #1))"))
	ctx := push(ground(), parse(pairs), parse("(data @Wrap (pair 0 NAT unit #22 #17))"))
	for _, x := range []struct {
		a, b string
		want bool
	}{
		{"(out 0 0 " + pairs + " (sig 0 NAT unit) #0 trivial #1)", "(out 0 0 " + pairs + " (sig 0 NAT unit) (pair 0 NAT unit (fst #0) star) trivial #1)", true},
		{"(out 0 0 " + pairs + " NAT (app 0 #23 (fst #0)) trivial #1)", "(out 0 0 " + pairs + " NAT (app 0 #23 (fst (pair 0 NAT unit (fst #0) star))) trivial #1)", true},
		{"(out 0 0 " + wrapped(pairs) + " NAT (app 0 #23 (fst #0)) trivial #1)", "(out 0 0 " + pairs + " NAT (app 0 #23 (app 0 (lam 0 NAT #0) (fst #0))) trivial #1)", true},
		{"(out 0 0 " + pairs + " NAT (app 0 #23 (fst #0)) trivial #1)", "(out 0 0 " + pairs + " NAT (fst #0) trivial #1)", false},
		// The motive knows its element: the variable 0 of the value stands for its class.
		{"(out 0 0 " + pairs + " (eq 0 " + pairs + " #0 (class " + pairs + " (pair 0 NAT unit ZERO star))) trivial trivial #1)", "(out 0 0 " + pairs + " (eq 0 " + pairs + " #0 (class " + pairs + " (pair 0 NAT unit ZERO #19))) trivial trivial #1)", true},
		// Methods: the parameter, the argument, the hypotheses.
		{"(elim @Wrap 0 (sig 0 NAT unit) #1 #2 (pair 0 NAT unit #24 star) #0)", "(elim @Wrap 0 (sig 0 NAT unit) (pair 0 NAT unit (fst #1) #19) #2 (pair 0 NAT unit #24 #18) #0)", true},
		{"(elim @Wrap 0 (sig 0 NAT unit) #1 #2 (pair 0 NAT unit #24 star) #0)", "(elim @Wrap 0 (sig 0 NAT unit) #1 (pair 0 NAT unit (fst #2) star) (pair 0 NAT unit #24 star) #0)", true},
		{"(elim @Wrap 0 (sig 0 NAT unit) #1 #2 (pair 0 NAT unit #24 star) #0)", "(elim @Wrap 0 (sig 0 NAT unit) #2 #2 (pair 0 NAT unit #24 star) #0)", false},
		{"(elim @Wrap 0 NAT ZERO (app 0 #0 star) (pair 0 NAT unit #24 star) #0)", "(elim @Wrap 0 NAT ZERO (app 0 #0 #19) (pair 0 NAT unit #24 star) #0)", true},
		{"(elim @Wrap 0 NAT ZERO (app 0 #0 star) (pair 0 NAT unit #24 star) #0)", "(elim @Wrap 0 NAT ZERO (con @Nat 1 star (app 0 #0 star)) (pair 0 NAT unit #24 star) #0)", false},
		// The motive knows the parameter and the element.
		{"(elim @Wrap 0 (data @Vec (fst #1)) #9 #9 (pair 0 NAT unit #24 star) #0)", "(elim @Wrap 0 (data @Vec (app 0 (lam 0 NAT #0) (fst #1))) #9 #9 (pair 0 NAT unit #24 star) #0)", true},
		{"(elim @Wrap 0 (data @Vec (elim @Wrap 0 NAT ZERO ONE #1 #0)) #9 #9 (pair 0 NAT unit #24 star) #0)", "(elim @Wrap 0 (data @Vec (elim @Wrap 0 NAT ZERO ONE (pair 0 NAT unit (fst #1) star) #0)) #9 #9 (pair 0 NAT unit #24 star) #0)", true},
	} {
		for range 2 {
			_, is, e := conv.Neutral(tab, ctx, parse(x.a), parse(x.b), 100)
			if e != api.OK || is != x.want {
				t.Errorf("%s and %s: %v, %v, want %v", x.a, x.b, is, e, x.want)
			}
			x.a, x.b = x.b, x.a
		}
	}
}

// TestNeutralVariables compares terms in which a variable that was bound on the way is a function: whether its arguments are equal depends on its type.
func TestNeutralVariables(t *testing.T) {
	for _, domain := range []string{"unit", "NAT"} {
		fun := "(pi 0 " + domain + " NAT)"
		quo := "(quo 0 " + fun + " true trivial trivial trivial)"
		tab := with(basic(), assume("lie", "false"), family("Call", fun, fun, "(pi 0 unit (data @Call #1))"))
		ctx := context(fun, "(data @Call #0)", quo)
		call := func(motive, first, second string) string {
			return "(elim @Call 0 " + motive + " " + first + " " + second + " #2 #1)"
		}
		vec := func(s string) string { return "(data @Vec " + s + ")" }
		for _, s := range []string{
			"(pi 0 " + fun + " (data @Vec (app 0 #0 ARG)))", "(sig 0 " + fun + " (data @Vec (app 0 #0 ARG)))",
			"(quo 0 " + fun + " (eq 0 NAT (app 0 #1 ARG) @claimed) trivial trivial trivial)", "(quo 0 " + fun + " (eq 0 NAT @claimed (app 0 #0 ARG)) trivial trivial trivial)",
			vec(call("NAT", "(app 0 #2 ARG)", "ZERO")), vec(call("NAT", "(app 0 #1 ARG)", "ZERO")), vec(call("NAT", "ZERO", "(app 0 #2 ARG)")),
			vec(call("(pi 0 "+domain+" NAT)", "#1", "(lam 0 "+domain+" (app 0 (app 0 #1 star) ARG))")),
			"(data @Box{0} " + call("(data @Vec (app 0 #1 ARG))", "(absurd 0 (data @Vec (app 0 #2 ARG)) @lie)", "(absurd 0 (data @Vec (app 0 #2 ARG)) @lie)") + ")",
			vec("(out 0 0 " + quo + " NAT (app 0 #0 ARG) trivial #0)"), vec("(out 0 0 " + wrapped(quo) + " NAT (app 0 #0 ARG) trivial #0)"),
			vec("(app 0 @lost (lam 0 " + fun + " (app 0 #0 ARG)))"),
		} {
			a := strings.NewReplacer("ARG", "(absurd 0 "+domain+" @lie)").Replace(s)
			b := strings.NewReplacer("ARG", map[string]string{"unit": "star", "NAT": "ZERO"}[domain]).Replace(s)
			asked(t, with(tab, assume("lost", "(pi 0 (pi 0 "+fun+" NAT) NAT)")), ctx, []question{{"", a, b, domain == "unit"}})
		}
	}
}

// TestNeutralMotives has methods whose types are those of the motive at the parameter and the constructor.
func TestNeutralMotives(t *testing.T) {
	cases := func(e string) string { return "(elim @Bool 0 (type 0) unit NAT star " + e + ")" }
	tab := with(basic(), family("Flag", "BOOL", "unit"))
	ctx := context("unit", "NAT", "BOOL", "(data @Flag #0)")
	// The method for YES is a unit, that for NO a number.
	byElement := func(yes, no string) string {
		return "(elim @Bool 0 " + cases("#0") + " " + yes + " " + no + " star #1)"
	}
	// What the first component of the method is, is to be found by steps.
	byComponent := func(motive, value string) string {
		return "(elim @Flag 0 (sig 0 " + motive + " unit) (pair 0 " + motive + " unit " + value + " star) #1 #0)"
	}
	for _, x := range []struct {
		a, b string
		want bool
	}{
		{byElement("star", "ZERO"), byElement("#6", "ZERO"), true},
		{byElement("star", "ZERO"), byElement("star", "#5"), false},
		{byComponent(cases("YES"), "star"), byComponent(cases("YES"), "#6"), true},
		{byComponent(cases("NO"), "ZERO"), byComponent(cases("NO"), "#5"), false},
	} {
		for range 2 {
			if _, is, e := conv.Neutral(tab, ctx, parse(x.a), parse(x.b), 100); e != api.OK || is != x.want {
				t.Errorf("%s and %s: %v, %v, want %v", x.a, x.b, is, e, x.want)
			}
			x.a, x.b = x.b, x.a
		}
	}
}

// TestNeutralProofs applies functions to different proofs of a proposition of which nothing is known.
func TestNeutralProofs(t *testing.T) {
	ctx := context("prop", "!#0", "!false", "(pi 1 #2 (pi 0 NAT NAT))")
	a, b := parse("(app 0 (app 1 #0 #2) @two)"), parse("(app 0 (app 1 #0 (absurd 1 #3 #1)) "+num(2)+")")
	for range 2 {
		if typ, is, e := conv.Neutral(basic(), ctx, a, b, 100); !is || e != api.OK || !term.Same(typ, parse("NAT")) {
			t.Errorf("%s and %s: %s, %v, %v", text(a), text(b), text(typ), is, e)
		}
		a, b = b, a
	}
}

// A method that has no type, because table.Hypotheses is an error, is different, also from itself.
func TestNeutralMethodsWithoutTypes(t *testing.T) {
	arg := "(data @Many star)"
	for range 9 {
		arg = "(sig 0 (data @Many star) " + arg + ")"
	}
	tab := tableOf(family("Many", "unit", "unit", arg))
	ctx := context("(data @Many star)")
	for _, x := range []struct {
		functions int
		want      bool
	}{{0, true}, {900, true}, {1200, false}} {
		e := parse("(elim @Many 0 unit star star star #0)")
		e.L[0] = nest(api.TPi, x.functions, parse("unit"), parse("unit"))
		if _, is, code := conv.Neutral(tab, ctx, e, e, 10); is != x.want || code != api.OK {
			t.Errorf("hypotheses with %d functions: %v, %v", 10*x.functions, is, code)
		}
	}
	for _, s := range []string{"(elim @Many 0 unit star star #0)", "(elim @Many 0 unit star star star star #0)", "(elim @Lost 0 unit star star star #0)", "(elim @Many{0} 0 unit star star star #0)"} {
		if _, is, code := conv.Neutral(tab, ctx, parse(s), parse(s), 10); is || code != api.OK {
			t.Errorf("%s: %v, %v", s, is, code)
		}
	}
}

// TestNeutralIsTyped checks that the type of a neutral term is one that chapter 7 gives to it, up to conversion.
func TestNeutralIsTyped(t *testing.T) {
	g, ctx := newGen(3), ground()
	found := map[int]int{}
	for range 1200 {
		a := g.element(ctx, g.typ(ctx, 2), 4)
		h, _, code := reduce.Head(g.tab, a, 500)
		if code != api.OK {
			continue
		}
		b := h
		for i := range h.L {
			if g.Intn(2) == 0 && term.IsProof(h, i) {
				b, _ = term.Put(b, []int{i}, g.reproved(g.inside(ctx, h, i), h.L[i]))
			}
		}
		typ, is, e := conv.Neutral(g.tab, ctx, h, b, 500)
		switch h.Op {
		case api.TVar, api.TConst, api.TApp, api.TFst, api.TSnd, api.TElim, api.TOut, api.TCast, api.TAbsurd:
		default:
			if is || e != api.OK {
				t.Fatalf("%s is no neutral term: %v, %v", text(h), is, e)
			}
			continue
		}
		want, ok := g.infer(ctx, h)
		if !ok || !is || e != api.OK {
			t.Fatalf("%s: %v, %v, and a type: %v", text(h), is, e, ok)
		}
		if same, e := conv.Types(g.tab, ctx, typ, want, 500); !same || e != api.OK {
			t.Fatalf("%s has the type %s, not %s", text(h), text(want), text(typ))
		}
		found[h.Op]++
	}
	for _, op := range []int{api.TVar, api.TApp, api.TFst, api.TSnd, api.TElim, api.TOut, api.TCast, api.TAbsurd} {
		if found[op] == 0 {
			t.Errorf("no term with the Op %d", op)
		}
	}
}

// The answer is new memory: a type that is a part of an argument is copied.
func TestNeutralIsNew(t *testing.T) {
	a := parse("(cast 0 NAT (data @Vec #22) #9 #22)")
	a.L[1].U = nil
	typ, is, _ := conv.Neutral(basic(), ground(), a, a, 100)
	if !is {
		t.Fatal("the cast is different from itself")
	}
	typ.L[0].N = 99
	if a.L[1].L[0].N != 22 {
		t.Error("the type shares memory with the argument")
	}
}

// The type is exact, also where it has more nodes than terms of steps have.
func TestNeutralLargeType(t *testing.T) {
	codomain := parse("unit")
	for i := range 600 {
		codomain = node(api.TSigma, data("Vec", variable(599-i)), codomain)
	}
	tab := with(basic(), api.Decl{Name: "big", Kind: api.KAssume, Type: node(api.TPi, parse("NAT"), codomain)})
	arg := succ(500, variable(0))
	a := node(api.TApp, parse("@big"), arg)
	want := term.Fill(codomain, []api.Term{arg})
	if size(want) < 20*api.MaxTerm {
		t.Fatal("the type is small")
	}
	typ, is, e := conv.Neutral(tab, context("NAT"), a, a, 100)
	if !is || e != api.OK || !term.Same(typ, want) {
		t.Errorf("a type of %d nodes: %v, %v", size(want), is, e)
	}
}
