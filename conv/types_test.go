package conv_test

import (
	"fmt"
	"testing"

	"tenet/api"
	"tenet/conv"
)

// P6.1: types by their heads

// wrapped is the text of a type that has a step to another one.
func wrapped(s string) string {
	return "(fst (pair 2 (type 1) true " + s + " trivial))"
}

func TestTypesAlike(t *testing.T) {
	var list []question
	for _, s := range []string{"unit", "prop", "true", "(type 3)", "NAT", "QUO", "(pi 0 NAT BOOL)", "(eq 0 NAT ZERO ONE)", "#0", "(app 0 #1 ONE)", "(lam 0 unit star)", "?3", "proof"} {
		list = append(list, question{"", s, s, true})
	}
	asked(t, basic(), ground(), list)
}

// TestTypesOfOtherForms compares heads of all forms: each one is equal to itself alone.
func TestTypesOfOtherForms(t *testing.T) {
	list := []string{
		"unit", "prop", "true", "false", "NAT", "BOOL", "(type 0)", "QUO", "(pi 0 unit unit)", "(pi 1 true unit)", "(pi 2 unit true)", "(pi 3 true true)",
		"(sig 0 unit unit)", "(sig 1 true unit)", "(sig 2 unit true)", "(sig 3 true true)", "(eq 0 #24 #17 #17)", "#24", "(app 0 #23 ZERO)",
		"(elim @Bool 0 (type 0) NAT BOOL star #7)", "(absurd 0 (type 0) #9)", "@any{0}", "(data @Vec ZERO)", "(data @Box{0} NAT)",
	}
	var questions []question
	for i, a := range list {
		for j, b := range list {
			questions = append(questions, question{"", a, b, i == j}, question{"", wrapped(a), b, i == j})
		}
	}
	asked(t, basic(), ground(), questions)
}

func TestTypesByParts(t *testing.T) {
	var list []question
	for _, same := range []struct{ a, b string }{
		{"(pi %d %s BOOL)", "NAT"}, {"(pi %d NAT %s)", "BOOL"}, {"(sig %d %s BOOL)", "NAT"}, {"(sig %d NAT %s)", "BOOL"},
		{"(pi %d true %s)", "(pi 2 NAT (eq 0 NAT #0 #0))"}, {"(sig %d %s true)", "(sig 0 NAT (data @Vec #0))"},
	} {
		for mark := range 4 {
			a, b := fmt.Sprintf(same.a, mark, same.b), fmt.Sprintf(same.a, mark, wrapped(same.b))
			list = append(list, question{"", a, b, true}, question{"", b, fmt.Sprintf(same.a, mark, wrapped("unit")), false})
			list = append(list, question{"", b, fmt.Sprintf(same.a, 3-mark, same.b), false})
		}
	}
	list = append(list,
		// The codomain is compared in the context with the domain: there the variables 0 and 1 are units.
		question{"", "(pi 0 unit (pi 0 unit (data @Vec2 #0)))", "(pi 0 unit (pi 0 unit (data @Vec2 #1)))", true},
		question{"", "(pi 0 NAT (pi 0 NAT (data @Vec #0)))", "(pi 0 NAT (pi 0 NAT (data @Vec #1)))", false},
		question{"", "(sig 0 unit (data @Vec2 #0))", "(sig 0 (fst (pair 0 (type 0) (type 0) unit NAT)) (data @Vec2 star))", true},
		question{"", "(pi 0 @Fun (data @Vec (app 0 #0 ZERO)))", "(pi 0 (pi 0 NAT NAT) (data @Vec (app 0 (lam 0 NAT (app 0 #1 #0)) ZERO)))", true},
	)
	asked(t, with(basic(), family("Vec2", "unit", "unit")), ground(), list)
}

func TestTypesOfUniverses(t *testing.T) {
	asked(t, basic(), nil, []question{
		{"", "(type 1)", "(type 2)", false},
		{"", wrapped("(type 1)"), "(type 1)", true},
		{"", wrapped("(type max(u0+1,u1))"), "(type max(u0+1,u1))", true},
		{"", wrapped("(type max(u0+1,u1))"), "(type max(u0,u1+1))", false},
	})
	// Levels are put in for those of a declaration.
	tab := with(basic(), leveled(define("all", "(type max(u0+1,u1+1))", "(type max(u0,u1))"), 2))
	asked(t, tab, nil, []question{
		{"", "@all{u0;u1}", "@all{u1;u0}", true},
		{"", "@all{u0;u1}", "(type max(u0,u1))", true},
		{"", "@all{u0;0}", "(type u0)", true},
		{"", "@all{u0;1}", "(type u0)", false},
		{"", "@any{u0}", "@any{u1}", false},
		{"", "@any{u0}", wrapped("@any{u0}"), true},
	})
}

func TestTypesOfQuotients(t *testing.T) {
	quo := func(a, r, proofs string) string { return "(quo 0 " + a + " " + r + " " + proofs + ")" }
	some, others := "trivial trivial trivial", "#9 (fst #9) star"
	asked(t, basic(), ground(), []question{
		{"", quo("NAT", "true", some), quo("NAT", "true", others), true},
		{"", quo("NAT", "true", some), quo("BOOL", "true", some), false},
		{"", quo("NAT", "(eq 0 NAT #1 #0)", some), quo("NAT", "(eq 0 NAT #0 #1)", some), false},
		{"", quo("NAT", "(eq 0 NAT #1 #0)", some), quo(wrapped("NAT"), "(eq 1 "+wrapped("NAT")+" #1 #0)", others), true},
		{"", quo("unit", "(eq 0 (type 0) (app 0 #25 (app 0 #7 #1)) #26)", some), quo("unit", "(eq 0 (type 0) (app 0 #25 (app 0 #7 #0)) #26)", some), true}, // the relation's variables are units
		{"", "(quo 0 NAT true trivial trivial trivial)", "(quo 1 NAT true trivial trivial trivial)", true},
	})
}

func TestTypesOfFamilies(t *testing.T) {
	asked(t, basic(), ground(), []question{
		{"", "(data @Vec #22)", "(data @Vec #21)", false},
		{"", "(data @Vec @two)", "(data @Vec " + num(2) + ")", true},
		{"", "(data @Vec @two)", "(data @Vec " + num(3) + ")", false},
		{"", "(data @Nat star)", "(data @Nat #16)", true},
		{"", "(data @Nat star)", "(data @Bool star)", false},
		{"", "(data @Box{0} NAT)", "(data @Box{0} BOOL)", false},
		{"", "(data @Box{0} NAT)", "(data @Box{1} NAT)", false},
		{"", "(data @Box{u0} @any{u0})", "(data @Box{u0} " + wrapped("@any{u0}") + ")", true},
		{"", "(data @List @Fun)", "(data @List (pi 0 NAT NAT))", true},
	})
}

func TestTypesOfEquations(t *testing.T) {
	asked(t, basic(), ground(), []question{
		{"", "(eq 0 #24 #17 #17)", "(eq 3 " + wrapped("#24") + " #17 #17)", true},
		{"", "(eq 0 NAT #22 #21)", "(eq 0 NAT #21 #22)", false},
		{"", "(eq 0 NAT #22 #21)", "(eq 0 NAT #22 #22)", false},
		{"", "(eq 0 NAT #22 #21)", "(eq 7 NAT (app 0 (lam 0 NAT #0) #22) #21)", true},
		{"", "(eq 0 NAT #22 #21)", "(eq 0 NAT #22 (app 0 (lam 0 NAT #0) #21))", true},
		{"", "(eq 0 QUO #13 #13)", "(eq 0 MOD #3 #3)", false},
		// Equations step: at units to the true proposition, of constructors to those of arguments.
		{"", "(eq 0 unit #16 star)", "true", true},
		{"", "(eq 0 NAT ONE (con @Nat 1 star #22))", "(eq 0 NAT ZERO #22)", true},
		{"", "(eq 0 NAT ONE ZERO)", "false", true},
		{"", "(eq 0 (pi 0 NAT BOOL) (lam 0 NAT #8) @even)", "(pi 2 NAT (eq 0 BOOL #8 (app 0 @even #0)))", true},
		{"", "(eq 0 prop #11 true)", "(sig 3 (pi 3 #11 true) (pi 3 true #13))", true},
		{"", "(eq 1 (type 0) NAT unit)", "false", true},
		{"", "(eq 0 QUO (class QUO #22) (class QUO #21))", "(eq 0 NAT #22 #21)", true},
	})
}

func TestTypesThatAreNeutral(t *testing.T) {
	asked(t, basic(), ground(), []question{
		{"", "#24", "(app 0 #23 #22)", false},
		{"", "(app 0 #23 #22)", "(app 0 #23 #21)", false},
		{"", "(app 0 #23 @two)", "(app 0 #23 (con @Nat 1 star ONE))", true},
		{"", "(app 0 #23 #22)", wrapped("(app 0 #23 #22)"), true},
		{"", "(elim @Bool 0 (type 0) NAT BOOL star #7)", "(elim @Bool 0 (type 0) (data @Nat #16) BOOL star #7)", true},
		{"", "(elim @Bool 0 (type 0) NAT BOOL star #7)", "(elim @Bool 0 (type 0) NAT NAT star #7)", false},
		{"", "(absurd 0 (type 0) #9)", "(absurd 0 " + wrapped("(type 0)") + " (fst #9))", true},
	})
}

// Steps count together, in parts of parts.
func TestTypesCountSteps(t *testing.T) {
	a := parse("(sig 0 (pi 0 (app 0 (lam 0 unit NAT) star) BOOL) (app 0 (lam 0 unit BOOL) star))")
	b := parse("(sig 0 (pi 0 NAT (app 0 (lam 0 unit BOOL) star)) BOOL)")
	for fuel := range 10 {
		is, e := conv.Types(basic(), nil, a, b, fuel)
		if fuel >= 3 && (e != api.OK || !is) || fuel == 0 && e != api.ErrFuel || e == api.ErrFuel && is {
			t.Errorf("the fuel %d: %v, %v", fuel, is, e)
		}
	}
}
