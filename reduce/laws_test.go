package reduce_test

import (
	"fmt"
	"slices"
	"testing"

	"tenet/api"
	"tenet/reduce"
	"tenet/term"
)

// P5.4

func TestHeadIsTimes(t *testing.T) {
	r := newRandom(4)
	tab := basic()
	found := 0
	for range 6000 {
		s := r.term(2 + r.Intn(4))
		if r.Intn(2) == 0 {
			s = program(r)
		}
		h, n, e := reduce.Head(tab, s, 60)
		if e != api.OK {
			continue
		}
		found++
		x, e := reduce.Times(tab, s, n)
		if e != api.OK || !equal(x, h) {
			t.Fatalf("Head of %s: %s, but Times %d is %s, %v", text(s), text(h), n, text(x), e)
		}
		if !reduce.IsHead(tab, h) {
			t.Fatalf("Head of %s has a step: %s", text(s), text(h))
		}
		for _, fuel := range []int{n, n + 1, n + 100, api.MaxFuel} {
			if y, k, e := reduce.Head(tab, s, fuel); e != api.OK || k != n || !equal(y, h) {
				t.Fatalf("more fuel for %s: %d, %v", text(s), k, e)
			}
		}
		headOfStep(t, tab, s, h, n)
	}
	if found < 4000 {
		t.Errorf("only %d terms have heads", found)
	}
}

// headOfStep checks that the Head of a Step is the Head, with one step fewer.
func headOfStep(t *testing.T, tab api.Table, s, h api.Term, n int) {
	t.Helper()
	y, _, ok := reduce.Step(tab, s)
	if ok != (n > 0) {
		t.Fatalf("%s has %d steps, but Step is %v", text(s), n, ok)
	}
	if !ok {
		return
	}
	if x, e := reduce.Times(tab, s, 1); e != api.OK || !equal(x, y) {
		t.Fatalf("Step of %s: %s, but Times 1 is %s, %v", text(s), text(y), text(x), e)
	}
	if x, k, e := reduce.Head(tab, y, n-1); e != api.OK || k != n-1 || !equal(x, h) {
		t.Fatalf("Head of %s, the Step of %s: %s, %d, %v, want %s, %d", text(y), text(s), text(x), k, e, text(h), n-1)
	}
}

// P5.5

// commutes checks that a change of terms keeps a step and its rule.
func commutes(t *testing.T, tab api.Table, s, y api.Term, rule int, change func(api.Term) api.Term) {
	t.Helper()
	got, by, ok := reduce.Step(tab, change(s))
	if want := change(y); !ok || by != rule || !equal(got, want) {
		t.Fatalf("%s steps by %d to %s, but what it is changed to, %s, by %d to %s, want %s", text(s), rule, text(y), text(change(s)), by, text(got), text(want))
	}
}

func TestStepsCommute(t *testing.T) {
	r := newRandom(5)
	tab := basic()
	atRoot, inside := 0, 0
	for range 12000 {
		s := r.term(2 + r.Intn(4))
		y, rule, ok := reduce.Step(tab, s)
		if !ok {
			continue
		}
		by := []api.Term{variable(r.Intn(5)), variable(r.Intn(5)), variable(r.Intn(5))}[:r.Intn(4)]
		fill := func(t api.Term) api.Term { return term.Fill(t, by) }
		commutes(t, tab, s, y, rule, fill)
		path, _ := reduce.Place(tab, s)
		if len(path) > 0 {
			inside++
			continue
		}
		atRoot++
		by = []api.Term{r.term(2), r.term(3), parse("(lam 0 #0 #1)"), parse("ZERO")}
		commutes(t, tab, s, y, rule, fill)
		levels := []api.Level{lv(r.Intn(3)), lv(1, 2, 0), lv(0, 1, 1)}[r.Intn(2):]
		set := func(t api.Term) api.Term {
			out, e := term.SetLevels(t, levels)
			if e != api.OK {
				return api.Term{}
			}
			return out
		}
		if !nearLimit(s) {
			commutes(t, tab, s, y, rule, set)
		}
	}
	if atRoot < 2000 || inside < 500 {
		t.Errorf("only %d steps at the term itself, %d within", atRoot, inside)
	}
}

// nearLimit reports whether a level comes near its limit.
func nearLimit(t api.Term) bool {
	for _, l := range t.U {
		if l.Const > 900 {
			return true
		}
	}
	return slices.ContainsFunc(t.L, nearLimit)
}

func TestStepsOpenNothing(t *testing.T) {
	r := newRandom(6)
	tab := basic()
	for range 8000 {
		s := r.term(2 + r.Intn(3))
		free := term.Free(s)
		if r.Intn(2) == 0 {
			s = term.Fill(s, slices.Repeat([]api.Term{parse("star")}, free))
			free = 0
		}
		y, rule, _ := reduce.Step(tab, s)
		if term.Free(y) > free {
			t.Fatalf("%s steps by %d to %s", text(s), rule, text(y))
		}
	}
}

// P5.7

// exchanged returns a term with other proof parts.
func exchanged(t api.Term) api.Term {
	t = cloned(t)
	for i := range t.L {
		if term.IsProof(t, i) {
			t.L[i] = parse("(fst (snd #9))")
		} else {
			t.L[i] = exchanged(t.L[i])
		}
	}
	return t
}

// alikeHeads checks that a term and one that differs from it in its proof parts have the same steps.
func alikeHeads(t *testing.T, tab api.Table, s api.Term) {
	t.Helper()
	x := exchanged(s)
	if !term.Alike(s, x) {
		t.Fatalf("%s and %s are not alike", text(s), text(x))
	}
	for {
		y, rule, ok := reduce.Step(tab, s)
		z, other, is := reduce.Step(tab, x)
		if ok != is || rule != other || !term.Alike(y, z) {
			t.Fatalf("%s steps by %d to %s, but %s by %d to %s", text(s), rule, text(y), text(x), other, text(z))
		}
		if !ok {
			return
		}
		s, x = y, z
	}
}

// TestProofsDoNotMatter is P5.7 for casts between all closed types, and of all elements.
func TestProofsDoNotMatter(t *testing.T) {
	tab := basic()
	k := kernel{tab}
	for _, from := range closedTypes {
		for _, to := range closedTypes {
			alikeHeads(t, tab, parse("(cast 0 "+from+" "+to+" #1 #0)"))
			alikeHeads(t, tab, parse("(eq 0 "+to+" (cast 0 "+from+" "+to+" #1 #0) #2)"))
			ctx := []api.Term{parse("(eq 1 (type 0) " + from + " " + to + ")"), parse(from)}
			for _, part := range []string{"(fst %s)", "(snd %s)", "(app 0 %s @two)", "(app 1 %s trivial)"} {
				s := parse(fmt.Sprintf(part, "(cast 0 "+from+" "+to+" #1 #0)"))
				// A proof may be a part of another proof.
				if typ, ok := k.infer(ctx, s); ok && !k.isProp(ctx, typ) {
					alikeHeads(t, tab, s)
				}
			}
		}
	}
	for _, s := range elements {
		typ, _ := k.infer(nil, parse(s))
		for _, to := range append(closedTypes, "(data @Box{0} BOOL)", "(data @List BOOL)", "(data @Vec ONE)") {
			alikeHeads(t, tab, parse("(cast 0 "+text(typ)+" "+to+" #1 "+s+")"))
		}
	}
	alikeHeads(t, tab, parse("(out 0 0 (quo 0 NAT true star star star) NAT ONE trivial (class (quo 0 NAT true star star star) @two))"))
	alikeHeads(t, tab, parse("(app 1 (lam 1 true (con @Nat 1 star ONE)) trivial)"))
	alikeHeads(t, tab, parse("(app 0 (absurd 0 (pi 0 NAT NAT) #0) @two)"))
}
