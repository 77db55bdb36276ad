package conv_test

import (
	"testing"

	"tenet/api"
	"tenet/conv"
	"tenet/term"
)

// TestChapterExpansion runs the first example of the chapter.
func TestChapterExpansion(t *testing.T) {
	asked(t, basic(), context("(type 0)", "(pi 0 #0 #1)"), []question{{"(pi 0 #1 #2)", "(lam 0 #1 (app 0 #1 #0))", "#0", true}})
	asked(t, basic(), context("(pi 0 NAT NAT)"), []question{{"(pi 0 NAT NAT)", "(lam 0 NAT (app 0 #1 #0))", "#0", true}})
}

// TestChapterVariables runs the second example of the chapter.
func TestChapterVariables(t *testing.T) {
	asked(t, basic(), context("unit", "unit"), []question{{"unit", "#0", "#1", true}})
	for _, s := range []string{"NAT", "BOOL", "(data @Vec ZERO)", "(data @List unit)"} {
		asked(t, basic(), context(s, s), []question{{s, "#0", "#1", false}})
	}
}

// TestChapterCasts runs the third example of the chapter.
func TestChapterCasts(t *testing.T) {
	ctx := context("(type 0)", "(type 0)", "#0", "!(eq 1 (type 0) #1 #2)", "!(eq 1 (type 0) #2 #3)", "!(eq 1 (type 0) #4 #3)", "#4")
	asked(t, basic(), ctx, []question{
		{"#6", "(cast 0 #5 #6 #3 #4)", "(cast 0 #5 #6 #2 #4)", true},
		{"#6", "(cast 0 #5 #6 #3 #4)", "(cast 0 #5 #6 (fst (pair 3 (eq 1 (type 0) #5 #6) true #2 trivial)) #4)", true},
		{"#6", "(cast 0 #5 #6 #3 #4)", "(cast 0 #5 #6 #2 #0)", false},
	})
}

// TestReadmeExample runs what README.md shows.
func TestReadmeExample(t *testing.T) {
	unit, _ := term.Parse("unit")
	nat, _ := term.Parse("(data @Nat star)")
	fun, _ := term.Parse("(pi 0 (data @Nat star) (pi 0 (data @Nat star) (data @Nat star)))")
	sum, _ := term.Parse("(lam 0 (data @Nat star) (lam 0 (data @Nat star) (elim @Nat 0 (data @Nat star) #3 (con @Nat 1 star #0) star #1)))")
	tab := api.Table{Decls: []api.Decl{
		{Name: "Nat", Kind: api.KData, Param: unit, Cons: []api.Con{{Name: "zero", Arg: unit}, {Name: "succ", Arg: nat}}},
		{Name: "plus", Kind: api.KDef, Type: fun, Body: sum},
	}}
	step, _ := term.Parse("(pi 0 (data @Nat star) (data @Nat star))")
	ctx := []api.Bind{{Type: nat}, {Type: step}} // #1 is a number, #0 a function
	f, _ := term.Parse("(lam 0 (data @Nat star) (app 0 #1 #0))")
	g, _ := term.Parse("#0")
	if same, e := conv.Elements(tab, ctx, step, f, g, 100); !same || e != api.OK {
		t.Errorf("an expansion: %v, %v", same, e)
	}
	a, _ := term.Parse("(app 0 (app 0 @plus (con @Nat 1 star (con @Nat 0 star star))) #1)")
	b, _ := term.Parse("(con @Nat 1 star #1)")
	if same, e := conv.Elements(tab, ctx, nat, a, b, 100); !same || e != api.OK {
		t.Errorf("a sum: %v, %v", same, e)
	}
	if _, e := conv.Elements(tab, ctx, nat, a, b, 2); e != api.ErrFuel {
		t.Errorf("little fuel: %v", e)
	}
	p, _ := term.Parse("(eq 0 (data @Nat star) (con @Nat 1 star #1) (con @Nat 0 star star))")
	q, _ := term.Parse("false")
	if same, e := conv.Types(tab, ctx, p, q, 100); !same || e != api.OK {
		t.Errorf("an equation: %v, %v", same, e)
	}
	x, _ := term.Parse("(app 0 #0 (con @Nat 1 star #1))")
	y, _ := term.Parse("(app 0 #0 #1)")
	if typ, same, e := conv.Neutral(tab, ctx, x, x, 100); !same || e != api.OK || text(typ) != "(data @Nat star)" {
		t.Errorf("Neutral: %s, %v, %v", text(typ), same, e)
	}
	if path := conv.Differ(tab, x, y); len(path) != 1 || path[0] != 1 {
		t.Errorf("Differ: %v", path)
	}
	if v, e := conv.Lookup(ctx, 1); e != api.OK || text(v.Type) != "(data @Nat star)" || v.Proof {
		t.Errorf("Lookup: %s, %v", text(v.Type), e)
	}
}
