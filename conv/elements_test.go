package conv_test

import (
	"testing"

	"tenet/api"
	"tenet/conv"
)

// P6.1: elements by the heads of their types

func TestElementsOfUnit(t *testing.T) {
	asked(t, basic(), ground(), []question{
		{"unit", "#16", "star", true},
		{"unit", "#16", "(absurd 0 unit #9)", true},
		{wrapped("unit"), "#16", "star", true},
		{"(app 0 (app 0 @id{1} (type 0)) unit)", "#16", "star", true},
		{"(sig 0 unit unit)", "(pair 0 unit unit star star)", "(absurd 0 (sig 0 unit unit) #9)", true},
		{"(pi 0 NAT unit)", "(lam 0 NAT star)", "(absurd 0 (pi 0 NAT unit) #9)", true},
	})
	// Nothing is looked at in elements of the unit: no step is done, however many there are.
	long := parse("(snd (pair 0 NAT unit (app 0 (app 0 @times " + num(40) + ") " + num(40) + ") #16))")
	if is, e := conv.Elements(basic(), ground(), parse("unit"), long, parse("star"), 0); !is || e != api.OK {
		t.Errorf("units without fuel: %v, %v", is, e)
	}
}

func TestElementsOfFunctionTypes(t *testing.T) {
	asked(t, basic(), ground(), []question{
		{"(pi 0 NAT NAT)", "#20", "(lam 0 NAT (app 0 #21 #0))", true},
		{"(pi 0 NAT NAT)", "#20", "(lam 0 NAT (app 0 #21 #23))", false},
		{"@Fun", "#20", "(lam 0 NAT (app 0 #21 #0))", true},
		{"@Fun", "#20", "#2", false},
		{"(pi 0 NAT NAT)", "(lam 0 NAT #0)", "(lam 0 NAT ZERO)", false},
		{"(pi 0 NAT (sig 0 BOOL NAT))", "#4", "(lam 0 NAT (pair 0 BOOL NAT (fst (app 0 #5 #0)) (snd (app 0 #5 #0))))", true},
		{"(pi 0 NAT (sig 0 BOOL NAT))", "#4", "(lam 0 NAT (pair 0 BOOL NAT (fst (app 0 #5 #0)) (snd (app 0 #5 ZERO))))", false},
		{"(pi 0 NAT (pi 0 NAT NAT))", "@plus", "(lam 0 NAT (lam 0 NAT (app 0 (app 0 @plus #1) #0)))", true},
		{"(pi 0 NAT (pi 0 NAT NAT))", "@plus", "(lam 0 NAT (lam 0 NAT (app 0 (app 0 @plus #0) #1)))", false},
		{"(pi 0 NAT (pi 0 NAT NAT))", "@plus", "@times", false},
		// Functions of proofs: the argument does not matter, and the mark goes along.
		{"(pi 1 (eq 0 NAT #22 #21) NAT)", "#15", "(lam 1 (eq 0 NAT #22 #21) (app 1 #16 #0))", true},
		{"(pi 1 (eq 0 NAT #22 #21) NAT)", "#15", "(lam 1 (eq 0 NAT #22 #21) (app 1 #16 (absurd 1 (eq 0 NAT #23 #22) #10)))", true},
		{"(pi 1 (eq 0 NAT #22 #21) NAT)", "#15", "(lam 1 (eq 0 NAT #22 #21) #23)", false},
		// The codomain is that for the variable.
		{"(pi 0 NAT (app 0 #23 #0))", "#1", "(lam 0 NAT (app 0 #2 #0))", true},
		{"(pi 0 BOOL (elim @Bool 0 (type 0) unit unit star #0))", "(lam 0 BOOL (absurd 0 (elim @Bool 0 (type 0) unit unit star #0) #10))", "(absurd 0 (pi 0 BOOL (elim @Bool 0 (type 0) unit unit star #0)) #9)", false},
		{"(pi 0 BOOL (elim @Bool 0 (type 0) unit unit star YES))", "(lam 0 BOOL star)", "(absurd 0 (pi 0 BOOL unit) #9)", true},
	})
}

func TestElementsOfPairTypes(t *testing.T) {
	asked(t, basic(), ground(), []question{
		{"(sig 0 NAT BOOL)", "#18", "(pair 0 NAT BOOL (fst #18) (snd #18))", true},
		{"(sig 0 NAT BOOL)", "#18", "(pair 0 NAT BOOL (fst #18) #7)", false},
		{"(sig 0 NAT BOOL)", "#18", "(pair 0 NAT BOOL #22 (snd #18))", false},
		{"(sig 0 NAT BOOL)", "(pair 0 NAT BOOL #22 #7)", "(pair 0 NAT BOOL #22 YES)", false},
		{"(sig 0 NAT BOOL)", "(pair 0 NAT BOOL @two #7)", "(pair 0 " + wrapped("NAT") + " BOOL " + num(2) + " #7)", true},
		// A part that is a proof is not compared.
		{"(sig 2 NAT (eq 0 NAT #0 #23))", "#14", "(pair 2 NAT (eq 0 NAT #0 #23) (fst #14) (absurd 1 (eq 0 NAT (fst #14) #22) #9))", true},
		{"(sig 2 NAT (eq 0 NAT #0 #23))", "#14", "(pair 2 NAT (eq 0 NAT #0 #23) #22 (refl 0 NAT #22))", false},
		{"(sig 1 #11 NAT)", "(pair 1 #11 NAT #10 #22)", "(pair 1 #11 NAT (absurd 1 #11 #9) #22)", true},
		{"(sig 1 #11 NAT)", "(pair 1 #11 NAT #10 #22)", "(pair 1 #11 NAT #10 #21)", false},
		{"(sig 3 #11 true)", "(pair 3 #11 true #10 trivial)", "(absurd 1 (sig 3 #11 true) #9)", true},
		// The type of the second part is that for the first one.
		{"(sig 0 BOOL (elim @Bool 0 (type 0) unit NAT star #0))", "(pair 0 BOOL (elim @Bool 0 (type 0) unit NAT star #0) YES #16)", "(pair 0 BOOL (elim @Bool 0 (type 0) unit NAT star #0) YES star)", true},
		{"(sig 0 BOOL (elim @Bool 0 (type 0) unit NAT star #0))", "(pair 0 BOOL (elim @Bool 0 (type 0) unit NAT star #0) NO #22)", "(pair 0 BOOL (elim @Bool 0 (type 0) unit NAT star #0) NO #21)", false},
		{"(sig 0 (type 0) (sig 0 #0 #1))", "(pair 0 (type 0) (sig 0 #0 #1) unit (pair 0 unit unit #16 star))", "(pair 0 (type 0) (sig 0 #0 #1) unit (pair 0 unit unit star #16))", true},
	})
}

func TestElementsOfUniverses(t *testing.T) {
	asked(t, basic(), ground(), []question{
		{"(type 0)", "NAT", "BOOL", false},
		{"(type 0)", "NAT", wrapped("NAT"), true},
		{"(type 0)", "@Fun", "(pi 0 NAT NAT)", true},
		{"(type 0)", "(pi 0 unit (data @Vec (app 0 #6 #0)))", "(pi 0 unit (data @Vec (app 0 #6 star)))", true},
		{"(type 1)", "(type 0)", "(app 0 (lam 0 unit (type 0)) star)", true},
		{"prop", "#11", "true", false},
		{"prop", "(eq 0 unit #16 star)", "true", true},
		{"prop", "(sig 3 true #12)", "(sig 3 true " + wrapped("#12") + ")", true},
		// Propositions that imply each other are proved to be equal, but are not so by definition.
		{"prop", "(sig 3 true #12)", "(sig 3 #11 true)", false},
		{"(pi 0 NAT (type 0))", "(lam 0 NAT (app 0 #24 #0))", "#23", true},
		{"(pi 0 NAT (type 0))", "(lam 0 NAT (data @Vec #0))", "#23", false},
		{"(pi 0 NAT prop)", "(lam 0 NAT (eq 0 NAT #0 #23))", "(lam 0 NAT (eq 1 NAT #0 (app 0 (lam 0 NAT #0) #23)))", true},
	})
}

func TestElementsOfFamilies(t *testing.T) {
	tree := func(n, f string) string {
		return "(con @Tree 1 star (pair 0 NAT (pi 0 NAT (data @Tree star)) " + n + " " + f + "))"
	}
	asked(t, basic(), ground(), []question{
		{"NAT", "ONE", "ZERO", false},
		{"NAT", "(con @Nat 1 star #22)", "(con @Nat 1 star #21)", false},
		{"NAT", "(con @Nat 1 star (app 0 (app 0 @plus ONE) #22))", "(con @Nat 1 star (con @Nat 1 star #22))", true},
		{"NAT", "(con @Nat 1 #16 #22)", "(app 0 (lam 0 NAT (con @Nat 1 star #0)) #22)", true}, // parameters are those of the type
		{"NAT", "(con @Nat 1 star #22)", "#22", false},
		{"NAT", "(con @Nat 1 star #22)", "(app 0 #20 #22)", false},
		{"BOOL", "YES", "NO", false},
		{"BOOL", "(con @Bool 0 star #16)", "YES", true}, // the argument is a unit
		{"(data @Tree star)", tree("#22", "(lam 0 NAT (con @Tree 0 star star))"), tree("#22", "(lam 0 NAT (con @Tree 0 star #17))"), true},
		{"(data @Tree star)", tree("#22", "(lam 0 NAT (con @Tree 0 star star))"), tree("#21", "(lam 0 NAT (con @Tree 0 star star))"), false},
		{"(data @Tree star)", tree("#22", "(lam 0 NAT (con @Tree 0 star star))"), tree("#22", "(lam 0 NAT "+tree("#0", "(absurd 0 (pi 0 NAT (data @Tree star)) #10)")+")"), false},
		// The type of the argument is that for the parameter.
		{"(data @Box{0} unit)", "(con @Box{0} 0 unit #16)", "(con @Box{0} 0 unit star)", true},
		{"(data @Box{0} NAT)", "(con @Box{0} 0 NAT #22)", "(con @Box{0} 0 NAT #21)", false},
		{"(data @Box{0} (pi 0 NAT NAT))", "(con @Box{0} 0 @Fun #20)", "(con @Box{0} 0 (pi 0 NAT NAT) (lam 0 NAT (app 0 #21 #0)))", true},
		{"(data @List unit)", "(con @List 1 unit (pair 0 unit (data @List unit) #16 #22))", "(con @List 1 unit (pair 0 unit (data @List unit) star #22))", true},
		{"(data @Vec ZERO)", "(con @Vec 0 ZERO (pair 2 unit (eq 0 NAT ZERO ZERO) #16 (refl 0 NAT ZERO)))", "(con @Vec 0 ZERO (pair 2 unit (eq 0 NAT ZERO ZERO) star trivial))", true},
		{"(data @Nat star)", "@hidden", "ONE", false},
		{"(data @Nat star)", "@hidden", "@claimed", false},
		{"(data @Nat star)", "@two", num(2), true},
	})
}

func TestElementsOfQuotients(t *testing.T) {
	asked(t, basic(), ground(), []question{
		{"QUO", "(class QUO #22)", "(class QUO #21)", false},
		{"QUO", "(class QUO @two)", "(class QUO " + num(2) + ")", true},
		{"QUO", "(class QUO #22)", "#13", false},
		{"QUO", "#13", "(app 0 (lam 0 QUO #0) #13)", true},
		{"(quo 0 unit true trivial trivial trivial)", "(class (quo 0 unit true trivial trivial trivial) #16)", "(class (quo 0 unit true #9 #9 #9) star)", true},
		// Related elements have classes that are proved to be equal, but are not so by definition.
		{"MOD", "(class MOD ZERO)", "(class MOD " + num(2) + ")", false},
		{"MOD", "(class MOD @two)", "(class (fst (pair 2 (type 0) true MOD trivial)) (app 0 (lam 0 NAT #0) " + num(2) + "))", true},
	})
}

func TestElementsOfNeutralTypes(t *testing.T) {
	asked(t, basic(), ground(), []question{
		{"#24", "#17", "(absurd 0 #24 #9)", false},
		{"#24", "#17", "(app 0 (lam 0 #24 #0) #17)", true},
		{"(app 0 #23 #22)", "#8", "(app 0 #1 #22)", false},
		{"(app 0 #23 #22)", "(app 0 #1 #22)", "(app 0 #1 (app 0 (lam 0 NAT #0) #22))", true},
		{"@any{0}", "(absurd 0 @any{0} #9)", "(absurd 0 @any{0} (fst #9))", true},
	})
}

// Proofs are never compared: any two of them are equal, at the whole as well.
func TestElementsOfPropositions(t *testing.T) {
	asked(t, basic(), ground(), []question{
		{"false", "#9", "(absurd 1 false #9)", true},
		{"true", "trivial", "(absurd 1 true #9)", true},
		{"(eq 0 NAT #22 #22)", "(refl 0 NAT #22)", "(absurd 1 (eq 0 NAT #22 #22) #9)", true},
		{"(pi 2 NAT #12)", "(lam 0 NAT #11)", "(absurd 1 (pi 2 NAT #12) #9)", true},
		{"(pi 3 true #12)", "(lam 1 true #11)", "(absurd 1 (pi 3 true #12) #9)", true},
		{"(sig 3 #11 #12)", "(pair 3 #11 #12 #10 #10)", "(absurd 1 (sig 3 #11 #12) #9)", true},
	})
}
