package conv_test

import (
	"fmt"
	"testing"

	"tenet/api"
	"tenet/conv"
)

// P6.1: definitions are unfolded in order, and steps count together

// needs checks that a comparison of elements has an answer with some fuel, and the same one with more.
func needs(t *testing.T, tab api.Table, typ, a, b string, fuel int, want bool) {
	t.Helper()
	x, y := parse(a), parse(b)
	for range 2 {
		for _, f := range []int{fuel, fuel + 1, fuel + 100, api.MaxFuel, 1 << 40} {
			if is, e := conv.Elements(tab, ground(), parse(typ), x, y, f); e != api.OK || is != want {
				t.Errorf("%s and %s with the fuel %d: %v, %v", a, b, f, is, e)
			}
		}
		x, y = y, x
	}
}

func TestLaterDefinitionsAreUnfoldedFirst(t *testing.T) {
	tab := basic()
	for i := range 6 {
		body := "ZERO"
		if i > 0 {
			body = fmt.Sprintf("@d%d", i-1)
		}
		tab = with(tab, define(fmt.Sprintf("d%d", i), "NAT", body))
	}
	needs(t, tab, "NAT", "@d5", "@d2", 3, true)
	needs(t, tab, "NAT", "@d5", "@d0", 5, true)
	needs(t, tab, "NAT", "@d5", "ZERO", 6, true)
	needs(t, tab, "NAT", "@d5", "ONE", 6, false)
	needs(t, tab, "NAT", "@two", "(app 0 (app 0 @plus ONE) ONE)", 1, true)
}

// TestSameDefinitionsAreComparedFirst has definitions that cannot be unfolded with the fuel that is enough.
func TestSameDefinitionsAreComparedFirst(t *testing.T) {
	large := "(app 0 (app 0 @times " + num(90) + ") (app 0 (app 0 @times " + num(90) + ") " + num(90) + "))"
	moved := "(app 0 (lam 0 NAT #0) #22)"
	needs(t, basic(), "NAT", "(app 0 (app 0 @plus "+large+") #22)", "(app 0 (app 0 @plus "+large+") "+moved+")", 1, true)
	needs(t, basic(), "BOOL", "(app 0 @even (app 0 (app 0 @plus "+large+") #22))", "(app 0 @even (app 0 (app 0 @plus "+large+") "+moved+"))", 1, true)
	needs(t, basic(), "#24", "(app 0 (app 0 @id{0} #24) #17)", "(app 0 (app 0 @id{0} "+wrapped("#24")+") #17)", 1, true)
	// A part is compared after another one was found equal.
	needs(t, basic(), "(sig 0 NAT BOOL)", "(pair 0 NAT BOOL (app 0 (app 0 @plus "+large+") #22) YES)", "(pair 0 NAT BOOL (app 0 (app 0 @plus "+large+") "+moved+") NO)", 5, false)
}

func TestSameDefinitionsAreUnfolded(t *testing.T) {
	tab := with(basic(), define("none", "(pi 0 NAT NAT)", "(lam 0 NAT ZERO)"), leveled(define("unit", "(type 0)", "unit"), 1))
	needs(t, tab, "BOOL", "(app 0 @even ONE)", "(app 0 @even "+num(3)+")", 200, true)
	needs(t, tab, "BOOL", "(app 0 @even ONE)", "(app 0 @even @two)", 200, false)
	needs(t, tab, "NAT", "(app 0 @none #22)", "(app 0 @none #21)", 4, true)
	// An attempt within an attempt: the inner one is given up, the outer one holds.
	needs(t, tab, "NAT", "(app 0 @none (app 0 @none #22))", "(app 0 @none (app 0 @none #21))", 4, true)
	needs(t, tab, "NAT", "(app 0 (app 0 @plus (app 0 @none #22)) #22)", "(app 0 (app 0 @plus (app 0 @none #21)) #21)", 100, false)
	needs(t, tab, "NAT", "(app 0 (app 0 @plus (app 0 @none #22)) (app 0 @none #22))", "(app 0 (app 0 @plus (app 0 @none #21)) (app 0 @none #20))", 8, true)
	// The same definition with other levels is unfolded on both sides.
	needs(t, tab, "(type 0)", "@unit{0}", "@unit{1}", 2, true)
	needs(t, tab, "(type 0)", "@unit{u0}", "@unit{0}", 2, true)
	needs(t, tab, "(type 0)", "@unit{u0}", "NAT", 1, false)
}

// TestSpinesAreNotUnfolded: what is opaque or assumed, or has no body with its levels, is a head.
func TestSpinesAreNotUnfolded(t *testing.T) {
	tab := with(basic(), leveled(define("high", "(type u0+900)", "(type u0+899)"), 1))
	needs(t, tab, "NAT", "@hidden", "ONE", 0, false)
	needs(t, tab, "NAT", "(app 0 (app 0 @plus @hidden) #22)", "(app 0 (app 0 @plus @claimed) #22)", 100, false)
	needs(t, tab, "(pi 0 NAT NAT)", "@other", "(lam 0 NAT (app 0 @other #0))", 1, true)
	for _, s := range []string{"@high{u0+500}", "@high", "@high{0;0}", "@lost"} {
		if is, e := conv.Types(tab, nil, parse(s), parse("unit"), 0); is || e != api.OK {
			t.Errorf("%s: %v, %v", s, is, e)
		}
		if is, e := conv.Types(tab, nil, parse(s), parse(s), 0); !is || e != api.OK {
			t.Errorf("%s and itself: %v, %v", s, is, e)
		}
	}
}

func TestFuelHasItsBounds(t *testing.T) {
	three, sum := parse(num(3)), parse("(app 0 (app 0 @plus ONE) @two)")
	for _, fuel := range []int{0, -1, -1 << 60} {
		if is, e := conv.Elements(basic(), nil, parse("NAT"), three, sum, fuel); is || e != api.ErrFuel {
			t.Errorf("the fuel %d: %v, %v", fuel, is, e)
		}
		if is, e := conv.Types(basic(), nil, data("Vec", three), data("Vec", sum), fuel); is || e != api.ErrFuel {
			t.Errorf("types, the fuel %d: %v, %v", fuel, is, e)
		}
		if typ, is, e := conv.Neutral(basic(), ground(), node(api.TApp, parse("#20"), three), node(api.TApp, parse("#20"), sum), fuel); is || e != api.ErrFuel || typ.Op != 0 {
			t.Errorf("neutral terms, the fuel %d: %v, %v", fuel, is, e)
		}
	}
	// Each constructor takes some steps: all of them are more than MaxFuel for the greater number, however much fuel there is.
	for _, x := range []struct {
		n    int
		code api.Errno
	}{{40, api.OK}, {90, api.ErrFuel}} {
		product := parse("(app 0 (app 0 @times " + num(x.n) + ") (app 0 (app 0 @times " + num(x.n) + ") ONE))")
		is, e := conv.Elements(basic(), nil, parse("NAT"), product, succ(x.n*x.n, parse("ZERO")), 1<<60)
		if e != x.code || is != (e == api.OK) {
			t.Errorf("the square of %d: %v, %v", x.n, is, e)
		}
	}
}

// A step that makes a term of more than MaxTerm nodes is as if the fuel had run out.
func TestFuelOfLargeTerms(t *testing.T) {
	body := variable(0)
	for range 6 {
		body = marked(api.TPair, 0, parse("unit"), parse("unit"), body, body)
	}
	f := node(api.TLam, parse("unit"), node(api.TFst, body))
	for _, x := range []struct {
		nodes int
		code  api.Errno
	}{{100, api.OK}, {400, api.ErrFuel}} {
		a := node(api.TApp, f, nestOp(api.TFst, x.nodes, variable(8)))
		_, e := conv.Elements(basic(), ground(), parse("NAT"), a, parse("#22"), 1000)
		if e != x.code {
			t.Errorf("%d nodes: %v, want %v", x.nodes, e, x.code)
		}
	}
}

// nestOp returns a node with one part, n times around a term.
func nestOp(op, n int, t api.Term) api.Term {
	for range n {
		t = node(op, t)
	}
	return t
}
