package reduce_test

import (
	"fmt"
	"testing"

	"tenet/api"
	"tenet/reduce"
)

// closedTypes are types of the level 0 without variables, of all forms.
var closedTypes = []string{
	"unit", "prop", "NAT", "BOOL",
	"(pi 0 NAT NAT)", "(pi 0 BOOL (data @Vec ZERO))", "(pi 0 NAT (data @Vec #0))", "(pi 1 true NAT)", "(pi 1 (eq 0 NAT ZERO ONE) (data @Vec ONE))", "(pi 0 prop prop)", "(pi 0 (pi 0 NAT NAT) (data @Vec (app 0 #0 ZERO)))",
	"(sig 0 NAT BOOL)", "(sig 0 NAT (data @Vec #0))", "(sig 0 BOOL (sig 0 NAT (data @Vec #0)))", "(sig 1 true NAT)", "(sig 1 (eq 0 NAT ONE ONE) (data @Vec ZERO))", "(sig 2 NAT (eq 0 NAT #0 ZERO))", "(sig 2 (sig 0 NAT (data @Vec #0)) true)", "(sig 0 (sig 2 NAT true) (data @Vec (fst #0)))",
	"(data @Vec ZERO)", "(data @Vec (app 0 (app 0 @plus ONE) ZERO))", "(data @Tree star)", "(data @None star)",
	"(quo 0 NAT (eq 0 NAT #1 #0) star star star)", "(quo 0 BOOL true star star star)", "(quo 0 (data @Vec ZERO) true star star star)",
}

// follow checks that all head steps of a term keep its type.
func follow(t *testing.T, k kernel, ctx []api.Term, s api.Term, seen map[int]int) {
	t.Helper()
	typ, ok := k.infer(ctx, s)
	if !ok {
		t.Fatalf("the test has a term without a type: %s", text(s))
	}
	for n := 0; ; n++ {
		y, rule, is := reduce.Step(k.tab, s)
		if !is {
			return
		}
		seen[rule]++
		if !k.has(ctx, y, typ) {
			t.Fatalf("%s steps by %d to %s, which has not its type %s", text(s), rule, text(y), text(typ))
		}
		if n > 200 {
			t.Fatalf("%s has too many steps", text(s))
		}
		s = y
	}
}

// TestStepsKeepTypes is P5.6, for equations and casts between all closed types, and for their parts.
func TestStepsKeepTypes(t *testing.T) {
	k, seen := kernel{basic()}, map[int]int{}
	for _, from := range closedTypes {
		follow(t, k, []api.Term{parse(from), up(parse(from), 1)}, parse("(eq 0 "+from+" #0 #1)"), seen)
		for _, to := range closedTypes {
			same := parse("(eq 1 (type 0) " + from + " " + to + ")")
			follow(t, k, nil, same, seen)
			ctx := []api.Term{same, parse(from)}
			cast := "(cast 0 " + from + " " + to + " #1 #0)"
			follow(t, k, ctx, parse(cast), seen)
			follow(t, k, push(ctx, parse(to)), up(parse("(eq 0 "+to+" "+cast+" "+cast+")"), 1), seen)
			for _, part := range []string{"(fst %s)", "(snd %s)", "(app 0 %s ZERO)", "(app 0 %s YES)", "(app 1 %s trivial)", "(app 1 (lam 1 true (app 1 %s trivial)) trivial)"} {
				s := parse(fmt.Sprintf(part, cast))
				if _, ok := k.infer(ctx, s); ok {
					follow(t, k, ctx, s, seen)
				}
			}
		}
	}
	for _, rule := range []int{api.RProj, api.RBeta, api.REqPi, api.REqPair, api.REqUnit, api.REqProp, api.REqType, api.RCast, api.RClash} {
		if seen[rule] == 0 {
			t.Errorf("the rule %d was not used", rule)
		}
	}
}

// elements are terms without variables, of all closed types that have some: constructors above all.
var elements = []string{
	"star", "ZERO", "ONE", "YES", "true", "(con @Vec 0 ZERO (pair 2 unit (eq 0 NAT ZERO ZERO) star (refl 0 NAT ZERO)))",
	"(con @Vec 1 ONE " + consArg + ")",
	"(con @Tree 0 star star)", "(con @Tree 1 star (pair 0 NAT (pi 0 NAT (data @Tree star)) ONE (lam 0 NAT (con @Tree 0 star star))))",
	"(lam 0 NAT (con @Nat 1 star #0))", "(lam 1 true ONE)", "(pair 0 NAT BOOL ONE NO)", "(pair 1 true NAT trivial ONE)", "(pair 2 NAT (eq 0 NAT #0 ZERO) ZERO (refl 0 NAT ZERO))",
	"(class (quo 0 NAT (eq 0 NAT #1 #0) star star star) ONE)", "(class (quo 0 BOOL true star star star) YES)",
	"(con @Box{0} 0 NAT ONE)", "(con @List 1 NAT (pair 0 NAT (data @List NAT) ONE (con @List 0 NAT star)))",
}

// consArg is the argument of a vector of the length 1.
const consArg = "(pair 0 NAT (sig 0 NAT (sig 2 (data @Vec #1) (eq 0 NAT ONE (con @Nat 1 star #2)))) ZERO (pair 0 NAT (sig 2 (data @Vec ZERO) (eq 0 NAT ONE ONE)) ONE (pair 2 (data @Vec ZERO) (eq 0 NAT ONE ONE) (con @Vec 0 ZERO (pair 2 unit (eq 0 NAT ZERO ZERO) star (refl 0 NAT ZERO))) (refl 0 NAT ONE))))"

// TestStepsOfElementsKeepTypes is P5.6, for equations of elements and casts of them, by variables that stand for proofs.
func TestStepsOfElementsKeepTypes(t *testing.T) {
	k, seen := kernel{basic()}, map[int]int{}
	others := append(closedTypes, "(data @Box{0} BOOL)", "(data @List BOOL)", "(data @Vec ONE)", "(data @List (data @Vec ONE))")
	for _, s := range elements {
		typ, ok := k.infer(nil, parse(s))
		if !ok {
			t.Fatalf("%s has no type", s)
		}
		a := text(typ)
		for _, s2 := range elements {
			if k.has(nil, parse(s2), typ) {
				follow(t, k, nil, parse("(eq 0 "+a+" "+s+" "+s2+")"), seen)
			}
		}
		for _, to := range others {
			same := parse("(eq 1 (type 0) " + a + " " + to + ")")
			if _, ok := k.infer(nil, same); !ok {
				continue
			}
			cast := "(cast 0 " + a + " " + to + " #0 " + s + ")"
			follow(t, k, []api.Term{same}, parse(cast), seen)
			follow(t, k, []api.Term{same}, parse("(eq 0 "+to+" "+cast+" "+cast+")"), seen)
		}
	}
	for _, rule := range []int{api.REqCon, api.REqQuo, api.RCast, api.RClash} {
		if seen[rule] == 0 {
			t.Errorf("the rule %d was not used", rule)
		}
	}
}

// TestProgramsKeepTypes is P5.6 for terms that eliminate and apply.
func TestProgramsKeepTypes(t *testing.T) {
	k, seen := kernel{basic()}, map[int]int{}
	for _, s := range []string{
		"(app 0 (app 0 @plus @two) @claimed)", "(app 0 (app 0 @times " + num(3) + ") @two)", "(app 0 (app 0 @plus (fst (pair 0 NAT NAT @two ZERO))) ONE)",
		"(elim @Bool 0 (type 0) NAT (pi 0 NAT NAT) star (elim @Nat 0 BOOL YES NO star @two))",
		"(elim @Vec 0 NAT ZERO (con @Nat 1 star (fst (snd (snd #0)))) ONE (con @Vec 1 ONE " + consArg + "))",
		"(elim @Tree 0 NAT ONE (app 0 (snd #0) (fst #1)) star (con @Tree 1 star (pair 0 NAT (pi 0 NAT (data @Tree star)) ONE (lam 0 NAT (con @Tree 0 star star)))))",
		"(out 0 0 (quo 0 BOOL true star star star) NAT ONE trivial (class (quo 0 BOOL true star star star) YES))",
		"(elim @List 0 NAT ZERO (con @Nat 1 star (snd #0)) NAT (con @List 1 NAT (pair 0 NAT (data @List NAT) ONE (con @List 0 NAT star))))",
		"(app 0 (app 0 @id{0} NAT) @two)",
		"(elim @Bool 1 (eq 0 (data @Bool #1) #0 #0) (refl 0 (data @Bool #2) (con @Bool 0 #2 #1)) (refl 0 (data @Bool #2) (con @Bool 1 #2 #1)) star NO)",
	} {
		follow(t, k, nil, parse(s), seen)
	}
	for _, rule := range []int{api.RBeta, api.RProj, api.RUnfold, api.RCase, api.RClass} {
		if seen[rule] == 0 {
			t.Errorf("the rule %d was not used", rule)
		}
	}
}
