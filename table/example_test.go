package table_test

import (
	"slices"
	"testing"

	"tenet/api"
	"tenet/table"
	"tenet/term"
)

// TestChapterNaturals runs the first example of the chapter.
func TestChapterNaturals(t *testing.T) {
	tab := tableOf(family("Nat", "unit", "unit", "(data @Nat star)"))
	tab.Decls[0].Cons[0].Name, tab.Decls[0].Cons[1].Name = "zero", "succ"
	if i, e := table.Check(tab); i != -1 || e != api.OK {
		t.Errorf("Check: %d, %v", i, e)
	}
	h, e := table.Hypotheses(tab, parse("(elim @Nat 0 (app 0 #2 #0) star star star star)"), 1, parse("star"), parse("#4"))
	isTerm(t, "the hypothesis for succ", h, e, "(app 0 #0 #4)", api.OK)
}

// TestChapterVectors runs the second example of the chapter.
func TestChapterVectors(t *testing.T) {
	tab := tableOf(family("Nat", "unit", "unit", "NAT"), assume("T", "(type 0)"), family("Vec", "NAT", "(sig 2 unit (eq 0 NAT #1 ZERO))", "(sig 0 NAT (sig 0 @T (sig 2 (data @Vec #1) (eq 0 NAT #3 (con @Nat 1 star #2)))))"))
	if i, e := table.Check(tab); i != -1 || e != api.OK {
		t.Errorf("Check: %d, %v", i, e)
	}
	if l, e := table.Recursive(tab, "Vec"); e != api.OK || !slices.Equal(l, []int{1}) {
		t.Errorf("Recursive: %v, %v", l, e)
	}
	e := parse("(elim @Vec 0 (app 0 (app 0 #2 #1) #0) star star star star)")
	h, code := table.Hypotheses(tab, e, 1, parse("#8"), parse("#9"))
	isTerm(t, "the hypotheses for cons", h, code, "(sig 0 unit (sig 0 unit (sig 0 (app 0 (app 0 #2 (fst #11)) (fst (snd (snd #11)))) unit)))", api.OK)
}

// TestChapterNegative runs the third example of the chapter.
func TestChapterNegative(t *testing.T) {
	for k := range 3 {
		args := []string{"unit", "unit", "unit"}
		args[k] = "(pi 0 (data @D star) unit)"
		isFault(t, "a function from the family", table.Positive(api.Table{}, family("D", "unit", args...)), api.ErrPositive, []int{k})
	}
}

// TestReadmeExample runs what README.md shows.
func TestReadmeExample(t *testing.T) {
	unit, _ := term.Parse("unit")
	nat, _ := term.Parse("(data @Nat star)")
	tab := api.Table{Decls: []api.Decl{{Name: "Nat", Kind: api.KData, Param: unit, Cons: []api.Con{{Name: "zero", Arg: unit}, {Name: "succ", Arg: nat}}}}}
	at, e := table.Check(tab)
	if at != -1 || e != api.OK {
		t.Errorf("Check: %d, %v", at, e)
	}
	star, _ := term.Parse("star")
	arg, e := table.Arg(tab, "Nat", nil, 1, star)
	isTerm(t, "Arg", arg, e, "(data @Nat star)", api.OK)
	rec, _ := table.Recursive(tab, "Nat")
	if !slices.Equal(rec, []int{1}) {
		t.Errorf("Recursive: %v", rec)
	}
	elim, _ := term.Parse("(elim @Nat 0 (eq 0 unit #2 #2) star star star #0)")
	n, _ := term.Parse("#7")
	h, e := table.Hypotheses(tab, elim, 1, star, n)
	isTerm(t, "Hypotheses", h, e, "(eq 0 unit #0 #0)", api.OK)
	v, e := table.Values(tab, elim, 1, star, n)
	isTerm(t, "Values", v, e, "(elim @Nat 0 (eq 0 unit #2 #2) star star star #7)", api.OK)
	bad, _ := term.Parse("(app 0 (con @Nat 2 star star) @minus)")
	isFault(t, "Fits", table.Fits(tab, bad), api.ErrArity, []int{0})
}
