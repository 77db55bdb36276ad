package conv_test

import (
	"testing"

	"tenet/api"
	"tenet/conv"
	"tenet/term"
)

// P6.3; Scope is tested beside the errors of form, too

func TestLookup(t *testing.T) {
	ctx := context("(type 0)", "(pi 0 NAT #1)", "!(eq 0 #1 #2 #2)", "(pi 0 #2 (app 0 #2 #0))")
	for i, want := range []struct {
		typ   string
		proof bool
	}{{"(pi 0 #3 (app 0 #3 #0))", false}, {"(eq 0 #3 #4 #4)", true}, {"(pi 0 NAT #4)", false}, {"(type 0)", false}} {
		b, e := conv.Lookup(ctx, i)
		if e != api.OK || !term.Same(b.Type, parse(want.typ)) || b.Proof != want.proof {
			t.Errorf("the variable %d: %s, %v, %v", i, text(b.Type), b.Proof, e)
		}
	}
	for _, n := range []int{-1, 4, 5, 1 << 40, -1 << 40} {
		if b, e := conv.Lookup(ctx, n); e != api.ErrRange || b.Proof || !term.Same(b.Type, api.Term{}) {
			t.Errorf("the variable %d: %v, %v", n, b, e)
		}
	}
	if _, e := conv.Lookup(nil, 0); e != api.ErrRange {
		t.Errorf("no context: %v", e)
	}
}

// Lookup takes any context, also one that is not in scope, and makes new memory.
func TestLookupAnyContext(t *testing.T) {
	long := make([]api.Bind, 100)
	for i := range long {
		long[i] = api.Bind{Type: node(api.TFst, variable(7)), Proof: i%2 == 0}
	}
	for n := range long {
		b, e := conv.Lookup(long, n)
		if e != api.OK || b.Type.L[0].N != 7+n+1 || b.Proof != ((99-n)%2 == 0) {
			t.Errorf("the variable %d: %+v, %v", n, b, e)
		}
	}
	b, _ := conv.Lookup(long, 0)
	b.Type.L[0].N = 1
	if long[99].Type.L[0].N != 7 {
		t.Error("the type shares memory with the context")
	}
	if b, e := conv.Lookup([]api.Bind{{Type: node(77, variable(-3))}}, 0); e != api.OK || !term.Same(b.Type, node(77, variable(-3))) {
		t.Errorf("no form: %+v, %v", b, e)
	}
}

// The variables of a longer context are those of the shorter one, shifted.
func TestLookupOfLongerContexts(t *testing.T) {
	ctx := ground()
	for k := range ctx {
		for n := range k {
			short, _ := conv.Lookup(ctx[:k], n)
			long, e := conv.Lookup(ctx, n+len(ctx)-k)
			if e != api.OK || !term.Same(long.Type, up(short.Type, len(ctx)-k)) || long.Proof != short.Proof {
				t.Errorf("the variable %d of %d", n, k)
			}
		}
		if !conv.Scope(ctx[:k]) {
			t.Errorf("the first %d variables are not in scope", k)
		}
	}
}
