package reduce_test

import (
	"slices"
	"testing"

	"tenet/api"
	"tenet/reduce"
)

// P5.1

// stepCase is a term, the rule by which it steps, at which path, and to what; the rule 0 if it is a head.
type stepCase struct {
	from string
	rule int
	path []int
	to   string
}

// runSteps checks Step, Rule, IsHead and Place.
func runSteps(t *testing.T, tab api.Table, cases []stepCase) {
	t.Helper()
	for _, c := range cases {
		s := parse(c.from)
		got, rule, ok := reduce.Step(tab, s)
		if ok != (c.rule != 0) || rule != c.rule || ok && text(got) != text(parse(c.to)) || !ok && !isZero(got) {
			t.Errorf("Step of %s: %s by %d, %v, want %s by %d", c.from, text(got), rule, ok, c.to, c.rule)
		}
		if reduce.Rule(tab, s) != c.rule || reduce.IsHead(tab, s) != (c.rule == 0) {
			t.Errorf("Rule and IsHead of %s: %d, %v, want %d", c.from, reduce.Rule(tab, s), reduce.IsHead(tab, s), c.rule)
		}
		if path, is := reduce.Place(tab, s); is != ok || !slices.Equal(path, c.path) {
			t.Errorf("Place in %s: %v, %v, want %v", c.from, path, is, c.path)
		}
	}
}

func TestEachRule(t *testing.T) {
	runSteps(t, basic(), []stepCase{
		{"(app 0 (lam 0 unit (app 0 #0 #1)) #5)", api.RBeta, nil, "(app 0 #5 #0)"},
		{"(app 1 (lam 0 unit #0) #5)", api.RBeta, nil, "#5"},
		{"(fst (pair 3 unit unit #1 #2))", api.RProj, nil, "#1"},
		{"(snd (pair 0 unit unit #1 #2))", api.RProj, nil, "#2"},
		{"@two", api.RUnfold, nil, "(app 0 (app 0 @plus ONE) ONE)"},
		{"@id{u1+1}", api.RUnfold, nil, "(lam 0 (type u1+1) (lam 0 #0 #0))"},
		{"(elim @Nat 0 NAT #5 (app 0 (app 0 #0 #1) (app 0 #2 #3)) star (con @Nat 1 #6 #7))", api.RCase, nil, "(app 0 (app 0 (elim @Nat 0 NAT #5 (app 0 (app 0 #0 #1) (app 0 #2 #3)) star #7) #7) (app 0 #6 #0))"},
		{"(elim @Bool 1 true #0 #3 #8 NO)", api.RCase, nil, "#0"},
		{"(elim @Bool 1 true #0 #1 #8 YES)", api.RCase, nil, "trivial"},
		{"(elim @Vec 0 #1 #5 #0 #6 (con @Vec 1 #7 #8))", api.RCase, nil, "(pair 0 unit (sig 0 unit (sig 0 (fst #10) unit)) star (pair 0 unit (sig 0 (fst #9) unit) star (pair 0 (fst #8) unit (elim @Vec 0 #1 #5 #0 (fst #8) (fst (snd (snd #8)))) star)))"},
		{"(out u0 1 #0 #1 (app 0 #0 #1) #2 (class #3 #4))", api.RClass, nil, "(app 0 #4 #0)"},
		{"(eq u0 (pi 3 unit (app 0 #0 #1)) #2 #3)", api.REqPi, nil, "(pi 3 unit (eq u0 (app 0 #0 #1) (app 1 #3 #0) (app 1 #4 #0)))"},
		{"(eq u0 (pi 1 #7 #0) (lam 1 #7 #0) #3)", api.REqPi, nil, "(pi 3 #7 (eq u0 #0 (app 1 (lam 1 #8 #0) #0) (app 1 #4 #0)))"},
		{"(eq u0 (sig 2 #7 #0) #2 #3)", api.REqPair, nil, "(eq u0 #7 (fst #2) (fst #3))"},
		{"(eq u0 (sig 1 #7 (app 0 #0 #1)) #2 #3)", api.REqPair, nil, "(eq u0 (app 0 (fst #3) #0) (snd #2) (snd #3))"},
		{"(eq u0 (sig 0 @P (data @Q #0)) #2 #3)", api.REqPair, nil, "(sig 3 (eq u0 @P (fst #2) (fst #3)) (eq u0 (data @Q (fst #4)) (cast u0 (data @Q (fst #3)) (data @Q (fst #4)) (subst u0 @P (eq u0+1 (type u0) (data @Q (fst #4)) (data @Q #0)) (fst #3) (fst #4) #0 (refl u0+1 (type u0) (data @Q (fst #3)))) (snd #3)) (snd #4)))"},
		{"(eq u0 unit #2 #3)", api.REqUnit, nil, "true"},
		{"(eq 0 prop #0 (app 0 #0 #1))", api.REqProp, nil, "(sig 3 (pi 3 #0 (app 0 #1 #2)) (pi 3 (app 0 #1 #2) #2))"},
		{"(eq 7 (data @Box{u0} #5) (con @Box{1} 0 star #2) (con @Box{2} 0 star #3))", api.REqCon, nil, "(eq u0 #5 #2 #3)"},
		{"(eq 0 BOOL (con @Bool 0 #1 #2) (con @Bool 1 #1 #2))", api.REqCon, nil, "false"},
		{"(eq 0 (quo 0 #5 (app 0 (app 0 #1 #0) #2) star star star) (class unit #6) (class unit #7))", api.REqQuo, nil, "(app 0 (app 0 #6 #7) #0)"},
	})
}

func TestEachEquationOfTypes(t *testing.T) {
	runSteps(t, basic(), []stepCase{
		{"(eq 5 (type 4) unit unit)", api.REqType, nil, "true"},
		{"(eq 5 (type 4) prop prop)", api.REqType, nil, "true"},
		{"(eq 5 (type 4) (type u0) (type u0))", api.REqType, nil, "true"},
		{"(eq 5 (type 4) (type u0+1) (type u0))", api.REqType, nil, "false"},
		{"(eq 5 (type 4) (type u0) (type max(u0+1,u1)))", api.REqType, nil, "false"},
		{"(eq 5 (type 4) (type u0) (type u1))", 0, nil, ""},
		{"(eq 5 (type 4) (type u0) (type max(u0,u1)))", 0, nil, ""},
		{"(eq 5 (type 4) (type 999) (type 1000))", api.REqType, nil, "false"},
		{"(eq 5 (type 4) (type 1000) (type 1000))", api.REqType, nil, "true"},
		{"(eq 5 (type 4) (type u0+1000) (type u1+1000))", 0, nil, ""},
		{"(eq u0 (type u1) (pi 0 #0 #0) (pi 0 #5 #0))", api.REqType, nil, "(sig 3 (eq u0 (type u1) #5 #0) (pi 2 #6 (eq u0 (type u1) (cast u1 #7 #2 #1 #0) #0)))"},
		{"(eq u0 (type u1) (pi 1 #0 #0) (pi 1 #5 #1))", api.REqType, nil, "(sig 3 (eq 0 prop #5 #0) (pi 3 #6 (eq u0 (type u1) (app 1 (fst #1) #0) #2)))"},
		{"(eq u0 (type u1) (pi 0 #0 #0) (pi 1 #5 #0))", api.REqType, nil, "false"},
		{"(eq u0 (type u1) (pi 2 #0 #0) (pi 2 #0 #0))", api.REqType, nil, "false"},
		{"(eq u0 (type u1) (pi 3 #0 #0) (pi 3 #0 #0))", api.REqType, nil, "false"},
		{"(eq u0 (type u1) (sig 0 #0 #0) (sig 0 #5 #0))", api.REqType, nil, "(sig 3 (eq u0 (type u1) #0 #5) (pi 2 #1 (eq u0 (type u1) #0 (cast u1 #2 #7 #1 #0))))"},
		{"(eq u0 (type u1) (sig 1 #0 #1) (sig 1 #5 #0))", api.REqType, nil, "(sig 3 (eq 0 prop #0 #5) (pi 3 #1 (eq u0 (type u1) #2 (app 1 (fst #1) #0))))"},
		{"(eq u0 (type u1) (sig 2 #0 #0) (sig 2 #5 #0))", api.REqType, nil, "(sig 3 (eq u0 (type u1) #0 #5) (pi 2 #1 (eq 0 prop #0 (cast u1 #2 #7 #1 #0))))"},
		{"(eq u0 (type u1) (sig 3 #0 #0) (sig 3 #5 #0))", api.REqType, nil, "(sig 3 (eq 0 prop #0 #5) (pi 3 #1 (eq 0 prop #0 (app 1 (fst #1) #0))))"},
		{"(eq u0 (type u1) (sig 0 #0 #0) (sig 2 #0 #0))", api.REqType, nil, "false"},
		{"(eq u0 (type u1) (quo 0 #0 (app 0 (app 0 #0 #1) #2) star star star) (quo 3 #5 (app 0 (app 0 #0 #1) #2) #8 #8 #8))", api.REqType, nil, "(sig 3 (eq u0 (type u1) #0 #5) (pi 2 #1 (pi 2 #2 (eq 0 prop (app 0 (app 0 #0 #1) #3) (app 0 (app 0 (cast u1 #3 #8 #2 #0) (cast u1 #3 #8 #2 #1)) #3)))))"},
		{"(eq u0 (type u1) (data @Box{u1} #0) (data @Box{u1} #1))", api.REqType, nil, "(eq u1+1 (type u1) #0 #1)"},
		{"(eq u0 (type u1) (data @Box{0} #0) (data @Box{1} #0))", api.REqType, nil, "false"},
		{"(eq u0 (type u1) (data @Box{u0} #0) (data @Box{u1} #0))", 0, nil, ""},
		{"(eq u0 (type u1) NAT BOOL)", api.REqType, nil, "false"},
		{"(eq u0 (type u1) true true)", api.REqType, nil, "false"},
		{"(eq u0 (type u1) false false)", api.REqType, nil, "false"},
		{"(eq u0 (type u1) unit prop)", api.REqType, nil, "false"},
		{"(eq u0 (type u1) prop (type 0))", api.REqType, nil, "false"},
		{"(eq u0 (type u1) unit (eq 0 unit star star))", api.REqUnit, []int{2}, "(eq u0 (type u1) unit true)"},
		{"(eq u0 (type u1) unit #0)", 0, nil, ""},
	})
}

func TestEachCast(t *testing.T) {
	runSteps(t, basic(), []stepCase{
		{"(cast 0 unit unit #1 #2)", api.RCast, nil, "#2"},
		{"(cast 0 prop prop #1 #2)", api.RCast, nil, "#2"},
		{"(cast 0 (type u0) (type u0) #1 #2)", api.RCast, nil, "#2"},
		{"(cast 0 (type u0) (type u1) #1 @two)", 0, nil, ""},
		{"(cast 0 (type u0) (type u0+1) #1 #2)", api.RClash, nil, "(absurd 0 (type u0+1) #1)"},
		{"(cast u0 (pi 0 #5 #0) (pi 0 #6 (app 0 #0 #1)) #1 #2)", api.RCast, nil, "(lam 0 #6 (cast u0 (cast u0 #7 #6 (fst #2) #0) (app 0 #0 #1) (app 0 (snd #2) #0) (app 0 #3 (cast u0 #7 #6 (fst #2) #0))))"},
		{"(cast u0 (pi 1 #5 (app 1 #7 #0)) (pi 1 #6 (app 1 #0 #1)) #1 #2)", api.RCast, nil, "(lam 1 #6 (cast u0 (app 1 #7 (app 1 (fst (fst #2)) #0)) (app 1 #0 #1) (app 1 (snd #2) #0) (app 1 #3 (app 1 (fst (fst #2)) #0))))"},
		{"(cast u0 (pi 2 #5 #0) (pi 2 #5 #0) #1 #2)", api.RClash, nil, "(absurd 0 (pi 2 #5 #0) #1)"},
		{"(cast u0 (sig 0 #5 #0) (sig 0 #6 (app 0 #0 #1)) #1 #2)", api.RCast, nil, "(pair 0 #6 (app 0 #0 #1) (cast u0 #5 #6 (fst #1) (fst #2)) (cast u0 (fst #2) (app 0 (cast u0 #5 #6 (fst #1) (fst #2)) #0) (app 0 (snd #1) (fst #2)) (snd #2)))"},
		{"(cast u0 (sig 1 #5 #0) (sig 1 #6 (app 0 #0 #1)) #1 #2)", api.RCast, nil, "(pair 1 #6 (app 0 #0 #1) (app 1 (fst (fst #1)) (fst #2)) (cast u0 (fst #2) (app 0 (app 1 (fst (fst #1)) (fst #2)) #0) (app 1 (snd #1) (fst #2)) (snd #2)))"},
		{"(cast u0 (sig 2 #5 #0) (sig 2 #6 (app 0 #0 #1)) #1 #2)", api.RCast, nil, "(pair 2 #6 (app 0 #0 #1) (cast u0 #5 #6 (fst #1) (fst #2)) (app 1 (fst (app 0 (snd #1) (fst #2))) (snd #2)))"},
		{"(cast u0 (sig 3 #5 #0) (sig 3 #6 (app 0 #0 #1)) #1 #2)", api.RCast, nil, "(pair 3 #6 (app 0 #0 #1) (app 1 (fst (fst #1)) (fst #2)) (app 1 (fst (app 1 (snd #1) (fst #2))) (snd #2)))"},
		{"(cast u0 (quo 0 #5 #0 star star star) (quo 3 #6 #0 #7 #7 #7) #1 (class #8 #2))", api.RCast, nil, "(class (quo 3 #6 #0 #7 #7 #7) (cast u0 #5 #6 (fst #1) #2))"},
		{"(cast 9 (data @Box{u0} #5) (data @Box{u0} #6) #1 (con @Box{3} 0 #8 #2))", api.RCast, nil, "(con @Box{u0} 0 #6 (cast u0 #5 #6 (subst u0+1 (type u0) (eq u0+1 (type u0) #6 #0) #5 #6 #1 (refl u0+1 (type u0) #5)) #2))"},
		{"(cast 9 (data @Box{u0} #5) (data @Box{u1} #6) #1 (con @Box{3} 0 #8 #2))", 0, nil, ""},
		{"(cast 9 (data @Box{u0} #5) (data @Box{u0+1} #6) #1 (con @Box{3} 0 #8 #2))", api.RClash, nil, "(absurd 0 (data @Box{u0+1} #6) #1)"},
		{"(cast 0 NAT BOOL #1 ZERO)", api.RClash, nil, "(absurd 0 BOOL #1)"},
		{"(cast 0 true true #1 #2)", api.RClash, nil, "(absurd 0 true #1)"},
		{"(cast 0 unit NAT @two #2)", api.RClash, nil, "(absurd 0 NAT @two)"},
	})
}

// TestExaminedParts is about where steps are done if no rule fits at the term itself.
func TestExaminedParts(t *testing.T) {
	runSteps(t, basic(), []stepCase{
		{"(app 0 (app 0 @two #1) @two)", api.RUnfold, []int{0, 0}, "(app 0 (app 0 (app 0 (app 0 @plus ONE) ONE) #1) @two)"},
		{"(snd (fst @two))", api.RUnfold, []int{0, 0}, "(snd (fst (app 0 (app 0 @plus ONE) ONE)))"},
		{"(elim @Nat 0 @two @two @two @two (fst (pair 0 unit unit #1 #2)))", api.RProj, []int{4}, "(elim @Nat 0 @two @two @two @two #1)"},
		{"(out 0 0 @two @two @two @two (eq 0 unit #0 #0))", api.REqUnit, []int{4}, "(out 0 0 @two @two @two @two true)"},
		{"(eq 0 @two @two @two)", api.RUnfold, []int{0}, "(eq 0 (app 0 (app 0 @plus ONE) ONE) @two @two)"},
		{"(eq 0 #0 @two @two)", 0, nil, ""},
		{"(eq 0 NAT @two @two)", api.RUnfold, []int{1}, "(eq 0 NAT (app 0 (app 0 @plus ONE) ONE) @two)"},
		{"(eq 0 NAT #0 @two)", api.RUnfold, []int{2}, "(eq 0 NAT #0 (app 0 (app 0 @plus ONE) ONE))"},
		{"(eq 0 NAT ZERO @two)", api.RUnfold, []int{2}, "(eq 0 NAT ZERO (app 0 (app 0 @plus ONE) ONE))"},
		{"(eq 0 NAT YES @two)", api.RUnfold, []int{2}, "(eq 0 NAT YES (app 0 (app 0 @plus ONE) ONE))"},
		{"(eq 0 (quo 0 unit true star star star) #0 @two)", api.RUnfold, []int{2}, "(eq 0 (quo 0 unit true star star star) #0 (app 0 (app 0 @plus ONE) ONE))"},
		{"(eq 0 (quo 0 unit true star star star) @two (class #0 #1))", api.RUnfold, []int{1}, "(eq 0 (quo 0 unit true star star star) (app 0 (app 0 @plus ONE) ONE) (class #0 #1))"},
		{"(eq 0 (type 0) @two @two)", api.RUnfold, []int{1}, "(eq 0 (type 0) (app 0 (app 0 @plus ONE) ONE) @two)"},
		{"(eq 0 (type 0) #0 @two)", api.RUnfold, []int{2}, "(eq 0 (type 0) #0 (app 0 (app 0 @plus ONE) ONE))"},
		{"(cast 0 @two @two @two @two)", api.RUnfold, []int{0}, "(cast 0 (app 0 (app 0 @plus ONE) ONE) @two @two @two)"},
		{"(cast 0 #0 @two @two @two)", api.RUnfold, []int{1}, "(cast 0 #0 (app 0 (app 0 @plus ONE) ONE) @two @two)"},
		{"(cast 0 unit #0 @two @two)", 0, nil, ""},
		{"(cast 0 NAT NAT @two @two)", api.RUnfold, []int{3}, "(cast 0 NAT NAT @two (app 0 (app 0 @plus ONE) ONE))"},
		{"(cast 0 (quo 0 unit true star star star) (quo 0 unit true star star star) @two @two)", api.RUnfold, []int{3}, "(cast 0 (quo 0 unit true star star star) (quo 0 unit true star star star) @two (app 0 (app 0 @plus ONE) ONE))"},
		{"(cast 0 NAT NAT @two YES)", 0, nil, ""},
	})
}

func TestHeadsWithoutSteps(t *testing.T) {
	var cases []stepCase
	for _, s := range []string{
		"#0", "@hidden", "@claimed", "@lost", "@Nat", "@id", "@two{0}", "?3", "proof", "star", "trivial", "(con @Nat 0 @two @two)", "(class @two @two)",
		"(pi 0 @two @two)", "(lam 0 @two @two)", "(sig 0 @two @two)", "(pair 0 @two @two @two @two)", "(data @Nat @two)", "(quo 0 @two @two @two @two @two)",
		"(absurd 0 @two @two)", "(refl 0 @two @two)", "(subst 0 @two @two @two @two @two @two)", "(coh 0 @two @two @two)",
		"(app 0 (pair 0 unit unit star star) @two)", "(fst (lam 0 unit #0))", "(out 0 0 @two @two @two @two ZERO)", "(elim @Nat 0 @two @two @two @two YES)",
		"(eq 0 (sig 3 @two @two) @two @two)", "(eq 0 true @two @two)", "(eq 0 star @two @two)",
	} {
		cases = append(cases, stepCase{from: s})
	}
	runSteps(t, basic(), cases)
}

// TestWhatTheTableLacks is about nodes with a family, a constructor or levels that are not there.
func TestWhatTheTableLacks(t *testing.T) {
	var cases []stepCase
	for _, s := range []string{
		"(elim @Lost 0 star star star (con @Lost 0 star star))",
		"(elim @Lost 0 star star star @two)",
		"(elim @plus 0 star star star (con @plus 0 star star))",
		"(elim @Nat{0} 0 star star star star ZERO)",
		"(elim @Nat{0} 0 star star star star @two)",
		"(elim @Nat 0 star star star star (con @Nat{0} 0 star star))",
		"(elim @Nat 0 star star star star (con @Nat 2 star star))",
		"(elim @Nat 0 star star star ZERO)",
		"(elim @Nat 0 star star star star star ZERO)",
		"(eq 0 (data @Lost star) (con @Lost 0 star star) (con @Lost 1 star star))",
		"(eq 0 (data @Lost star) @two @two)",
		"(eq 0 (data @Nat{0} star) ZERO ONE)",
		"(eq 0 NAT (con @Nat{0} 0 star star) ONE)",
		"(eq 0 NAT ONE (con @Nat{0} 0 star star))",
		"(eq 0 NAT (con @Nat 2 star star) ONE)",
		"(eq 0 NAT (con @Nat 2 star star) (con @Nat 2 star star))",
		"(eq 0 (type 0) (data @Lost star) (data @Lost star))",
		"(eq 0 (type 0) (data @Lost star) unit)",
		"(eq 0 (type 0) unit (data @Box unit))",
		"(eq 0 (type 0) (data @Lost star) NAT)",
		"(eq 0 (type 0) NAT (data @Nat{0} star))",
		"(cast 0 (data @Lost star) (data @Lost star) #0 @two)",
		"(cast 0 (data @Lost star) unit #0 @two)",
		"(cast 0 NAT (data @Nat{0} star) #0 ZERO)",
		"(cast 0 NAT NAT #0 (con @Nat{0} 0 star star))",
		"(cast 0 NAT NAT #0 (con @Nat 2 star star))",
	} {
		cases = append(cases, stepCase{from: s})
	}
	cases = append(cases, stepCase{"(eq 0 (type 0) (data @Lost star) @two)", api.RUnfold, []int{2}, "(eq 0 (type 0) (data @Lost star) (app 0 (app 0 @plus ONE) ONE))"})
	cases = append(cases, stepCase{"(cast 0 (data @Lost star) @two #0 #1)", api.RUnfold, []int{1}, "(cast 0 (data @Lost star) (app 0 (app 0 @plus ONE) ONE) #0 #1)"})
	runSteps(t, basic(), cases)
}

// TestLevelsAboveTheLimit is about rules that would make such a level.
func TestLevelsAboveTheLimit(t *testing.T) {
	high := leveled(family("High", "unit", "unit"), 1)
	high.Sort = lv(0, 0, 1000)
	over := leveled(family("Over", "unit", "unit"), 1)
	over.Over = lv(0, 0, 1000)
	param := leveled(family("Param", "(type u0+1000)", "unit"), 1)
	arg := leveled(family("Arg", "unit", "(type u0+1000)"), 1)
	tab := with(basic(), high, over, param, arg)
	runSteps(t, tab, []stepCase{
		{from: "(eq 1000 (sig 0 unit unit) #0 #1)"},
		{"(eq 999 (sig 2 unit true) #0 #1)", api.REqPair, nil, "(eq 999 unit (fst #0) (fst #1))"},
		{"(eq 1000 (sig 1 true unit) #0 #1)", api.REqPair, nil, "(eq 1000 unit (snd #0) (snd #1))"},
		{from: "(eq 0 (data @High{1} star) (con @High{1} 0 star #0) (con @High{1} 0 star #1))"},
		{"(eq 0 (data @High{0} star) (con @High{0} 0 star #0) (con @High{1} 0 star #1))", api.REqCon, nil, "(eq 1000 unit #0 #1)"},
		{from: "(eq 0 (data @Arg{1} star) (con @Arg{1} 0 star #0) (con @Arg{1} 0 star #1))"},
		{from: "(elim @Arg{1} 0 unit star star (con @Arg{1} 0 star star))"},
		{"(elim @High{1} 0 unit #3 star (con @High{1} 0 star star))", api.RCase, nil, "#0"},
		{from: "(cast 0 (data @High{0} star) (data @High{0} star) #0 (con @High{0} 0 star star))"},
		{from: "(cast 0 (data @Over{1} star) (data @Over{1} star) #0 (con @Over{1} 0 star star))"},
		{from: "(cast 0 (data @Param{1} star) (data @Param{1} star) #0 (con @Param{1} 0 star star))"},
		{from: "(cast 0 (data @Arg{1} star) (data @Arg{1} star) #0 (con @Arg{1} 0 star star))"},
		{from: "(eq 0 (type 0) (data @Over{1} #0) (data @Over{1} #1))"},
		{from: "(eq 0 (type 0) (data @Param{1} #0) (data @Param{1} #1))"},
		{"(eq 0 (type 0) (data @High{1} #0) (data @High{1} #1))", api.REqType, nil, "(eq 0 unit #0 #1)"},
		{"(eq 0 (type 0) (data @Over{1} #0) (data @Over{2} #1))", api.REqType, nil, "false"},
	})
}

func TestFormer(t *testing.T) {
	for op := -1; op <= api.TProof+1; op++ {
		want := slices.Contains([]int{api.TPi, api.TSigma, api.TUnit, api.TType, api.TProp, api.TData, api.TQuo, api.TTrue, api.TFalse}, op)
		if got := reduce.Former(node(op)); got != want {
			t.Errorf("Former of the Op %d: %v", op, got)
		}
	}
}

// TestStepsAreTheRules compares with the rules as the chapter says them, on many terms.
func TestStepsAreTheRules(t *testing.T) {
	r := newRandom(1)
	n := naive{basic()}
	tab := clonedTable(n.tab)
	count := map[int]int{}
	for range 20000 {
		s := r.term(2 + r.Intn(4))
		want, ok := n.step(s)
		count[want.rule]++
		sameStep(t, tab, s, want, ok)
	}
	for rule := range api.RClash + 1 {
		if count[rule] < 20 {
			t.Errorf("the rule %d is used %d times only", rule, count[rule])
		}
	}
}

// sameStep checks that a term has a step, or none, and that nothing is changed or shared.
func sameStep(t *testing.T, tab api.Table, s api.Term, want done, ok bool) {
	t.Helper()
	keep := cloned(s)
	got, rule, is := reduce.Step(tab, s)
	if is != ok || rule != want.rule || !equal(got, want.to) {
		t.Fatalf("Step of %s: %s by %d, %v, want %s by %d, %v", text(s), text(got), rule, is, text(want.to), want.rule, ok)
	}
	if reduce.Rule(tab, s) != rule || reduce.IsHead(tab, s) == ok {
		t.Fatalf("Rule, IsHead of %s: %d, %v, want %d", text(s), reduce.Rule(tab, s), reduce.IsHead(tab, s), rule)
	}
	path, is := reduce.Place(tab, s)
	if is != ok || !slices.Equal(path, want.path) {
		t.Fatalf("Place in %s: %v, %v, want %v", text(s), path, is, want.path)
	}
	isNew(t, "Step", got, tab, s)
	if !equal(s, keep) {
		t.Fatalf("Step changes %s", text(keep))
	}
}

// TestTermsWithoutForm have no step, whatever part of them has not its form.
func TestTermsWithoutForm(t *testing.T) {
	for _, bad := range []api.Term{{}, {Op: 99}, {Op: -1}, variable(-1), variable(api.MaxNodes + 1), node(api.TFst), {Op: api.TConst, S: "9"}, {Op: api.TType}, {Op: api.TType, U: []api.Level{lv(1, 0, 1)}}, {Op: api.TUnit, N: 1}} {
		for _, s := range []api.Term{bad, node(api.TApp, parse("(lam 0 unit #0)"), bad), node(api.TFst, api.Term{Op: api.TPair, L: []api.Term{parse("unit"), bad, parse("star"), parse("star")}})} {
			noStep(t, s)
		}
	}
}

// noStep checks that a term has no step.
func noStep(t *testing.T, s api.Term) {
	t.Helper()
	tab := basic()
	got, rule, ok := reduce.Step(tab, s)
	path, is := reduce.Place(tab, s)
	if ok || is || rule != 0 || !isZero(got) || len(path) != 0 || reduce.Rule(tab, s) != 0 || !reduce.IsHead(tab, s) {
		t.Errorf("a term of %d nodes has a step by %d, %v at %v", size(s), rule, ok, path)
	}
}

// TestSizesOfSteps is about the greatest terms that have steps, and results that are larger still.
func TestSizesOfSteps(t *testing.T) {
	tab := basic()
	f := parse("(lam 0 unit (app 0 #0 #0))")
	s := node(api.TApp, f, sized(api.MaxTerm-6))
	if got, rule, ok := reduce.Step(tab, s); !ok || rule != api.RBeta || size(got) != 2*(api.MaxTerm-6)+1 {
		t.Errorf("Step: %d nodes by %d, %v", size(got), rule, ok)
	}
	if path, is := reduce.Place(tab, s); !is || len(path) != 0 || reduce.Rule(tab, s) != api.RBeta || reduce.IsHead(tab, s) {
		t.Errorf("Place, Rule and IsHead: %v, %v", path, is)
	}
	noStep(t, node(api.TApp, f, sized(api.MaxTerm-5)))
}

// TestValuesAreLimited: there is no step where the values of the hypotheses would be too many nodes, however large a step's result may be.
func TestValuesAreLimited(t *testing.T) {
	tab := with(basic(), family("Twice", "unit", "(sig 0 (data @Twice star) (data @Twice star))", "unit"))
	for _, n := range []int{9000, 9992, 9993, 12000} {
		s := api.Term{Op: api.TElim, S: "Twice", L: []api.Term{parse("unit"), parse("#0"), sized(n), parse("star"), parse("(con @Twice 0 star star)")}}
		// Two eliminators, for (fst star) and (snd star), in a pair of two units.
		nodes := 3 + 2*(1+1+1+n+1+2)
		want := 0
		if nodes <= api.MaxTerm {
			want = api.RCase
		}
		if got := reduce.Rule(tab, s); got != want {
			t.Errorf("values of %d nodes: the rule %d, want %d", nodes, got, want)
		}
		s.L[4].N = 1
		if got := reduce.Rule(tab, s); got != api.RCase {
			t.Errorf("without hypotheses: the rule %d", got)
		}
	}
}
