package reduce_test

import (
	"testing"

	"tenet/api"
	"tenet/reduce"
	"tenet/term"
)

// TestChapterEquations runs the first example of the chapter.
func TestChapterEquations(t *testing.T) {
	for _, a := range []string{"#0", "star", "(lam 0 unit #0)", "@two"} {
		for _, b := range []string{"#7", "star", "(fst #0)"} {
			isTo(t, "(eq 0 unit "+a+" "+b+")", api.REqUnit, "true")
		}
	}
	isTo(t, "(eq 1 (type 0) unit (pi 0 unit unit))", api.REqType, "false")
}

// TestChapterCast runs the second example of the chapter.
func TestChapterCast(t *testing.T) {
	isTo(t, "(cast 0 (pi 0 unit unit) (pi 0 unit unit) #1 #0)", api.RCast, "(lam 0 unit (cast 0 unit unit (app 0 (snd #2) #0) (app 0 #1 (cast 0 unit unit (fst #2) #0))))")
	isTo(t, "(cast 0 unit unit (app 0 (snd #2) #0) (app 0 #1 (cast 0 unit unit (fst #2) #0)))", api.RCast, "(app 0 #1 (cast 0 unit unit (fst #2) #0))")
}

// TestChapterClash runs the third example of the chapter.
func TestChapterClash(t *testing.T) {
	isTo(t, "(cast 0 unit (pi 0 unit unit) #0 star)", api.RClash, "(absurd 0 (pi 0 unit unit) #0)")
	isTo(t, "(cast 0 (pi 0 unit unit) unit #0 #1)", api.RClash, "(absurd 0 unit #0)")
	isTo(t, "(cast 0 unit (pi 0 unit unit) @two star)", api.RClash, "(absurd 0 (pi 0 unit unit) @two)")
}

// isTo checks a step at the term itself.
func isTo(t *testing.T, from string, rule int, to string) {
	t.Helper()
	runSteps(t, basic(), []stepCase{{from, rule, nil, to}})
}

// TestReadmeExample runs what README.md shows.
func TestReadmeExample(t *testing.T) {
	unit, _ := term.Parse("unit")
	nat, _ := term.Parse("(data @Nat star)")
	fun, _ := term.Parse("(pi 0 (data @Nat star) (pi 0 (data @Nat star) (data @Nat star)))")
	sum, _ := term.Parse("(lam 0 (data @Nat star) (lam 0 (data @Nat star) (elim @Nat 0 (data @Nat star) #3 (con @Nat 1 star #0) star #1)))")
	tab := api.Table{Decls: []api.Decl{
		{Name: "Nat", Kind: api.KData, Param: unit, Cons: []api.Con{{Name: "zero", Arg: unit}, {Name: "succ", Arg: nat}}},
		{Name: "plus", Kind: api.KDef, Type: fun, Body: sum},
	}}
	s, _ := term.Parse("(app 0 (app 0 @plus (con @Nat 1 star (con @Nat 0 star star))) #0)")
	h, n, e := reduce.Head(tab, s, 100)
	if text(h) != "(con @Nat 1 star (elim @Nat 0 (data @Nat star) #3 (con @Nat 1 star #0) star (con @Nat 0 star star)))" || n != 4 || e != api.OK {
		t.Errorf("Head: %s, %d, %v", text(h), n, e)
	}
	if rule := reduce.Rule(tab, s); rule != api.RUnfold {
		t.Errorf("Rule: %d", rule)
	}
	at, _ := reduce.Place(tab, s)
	if len(at) != 2 || at[0] != 0 || at[1] != 0 {
		t.Errorf("Place: %v", at)
	}
	same, _ := term.Parse("(eq 0 (data @Nat star) (con @Nat 0 star star) (con @Nat 1 star #0))")
	no, rule, _ := reduce.Step(tab, same)
	if text(no) != "false" || rule != api.REqCon {
		t.Errorf("Step: %s, %d", text(no), rule)
	}
	four, _ := term.Parse("(app 0 (app 0 @plus (con @Nat 1 star (con @Nat 1 star (con @Nat 0 star star)))) (con @Nat 1 star (con @Nat 1 star (con @Nat 0 star star))))")
	if k, e := reduce.Numeral(tab, four, 100); k != 4 || e != api.OK {
		t.Errorf("Numeral: %d, %v", k, e)
	}
	if _, e := reduce.Numeral(tab, four, 3); e != api.ErrFuel {
		t.Errorf("Numeral with little fuel: %v", e)
	}
}
