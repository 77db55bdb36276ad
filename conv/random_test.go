package conv_test

import (
	"testing"

	"tenet/api"
	"tenet/conv"
	"tenet/reduce"
	"tenet/term"
)

// These tests compare with the procedure as it is written (P6.1, P6.2, P6.7).

// two returns a type and two elements of it; the second one may be a variation of the first one.
func (g gen) two(ctx []api.Bind) (typ, a, b api.Term, varied bool) {
	typ = g.typ(ctx, 1+g.Intn(3))
	a = g.element(ctx, typ, 2+g.Intn(3))
	if g.Intn(3) == 0 {
		return typ, a, g.element(ctx, typ, 2+g.Intn(3)), false
	}
	b = a
	for range 1 + g.Intn(4) {
		b = g.varied(ctx, b)
	}
	if g.Intn(2) == 0 {
		a = g.varied(ctx, a)
	}
	return typ, a, b, true
}

// comparison is a comparison by the package, and by the procedure as it is written.
type comparison struct {
	run     func(fuel int) (bool, api.Errno)
	literal func(l *literal) bool
	name    string
}

// agrees checks a comparison against the procedure: the answer, how much fuel is enough, and that more of it changes nothing. It returns the answer.
func agrees(t *testing.T, tab api.Table, c comparison) bool {
	t.Helper()
	want, steps, ok := compared(tab, c.literal)
	if !ok {
		t.Fatalf("%s: the procedure is out of fuel", c.name)
	}
	enough := false
	for fuel := range steps + 2 {
		is, e := c.run(fuel)
		switch {
		case e == api.OK && is != want || e != api.OK && (e != api.ErrFuel || is):
			t.Fatalf("%s with the fuel %d: %v, %v, want %v by %d steps", c.name, fuel, is, e, want, steps)
		case e == api.ErrFuel && (enough || fuel >= steps):
			t.Fatalf("%s with the fuel %d: no answer, but %d steps are needed", c.name, fuel, steps)
		}
		enough = e == api.OK
	}
	return want
}

// tally counts answers.
type tally struct {
	equal, different int
}

func (c *tally) add(same bool) {
	if same {
		c.equal++
	} else {
		c.different++
	}
}

func (c tally) check(t *testing.T, least int) {
	t.Helper()
	if c.equal < least || c.different < least {
		t.Errorf("only %d equal terms, %d different ones", c.equal, c.different)
	}
}

func TestElementsAsTheChapterSays(t *testing.T) {
	g, ctx := newGen(2), ground()
	var count tally
	for range 1500 {
		typ, a, b, varied := g.two(ctx)
		name := text(a) + " and " + text(b) + " of " + text(typ)
		same := agrees(t, g.tab, comparison{
			func(fuel int) (bool, api.Errno) { return conv.Elements(g.tab, ctx, typ, a, b, fuel) },
			func(l *literal) bool { return l.elements(ctx, typ, a, b) }, name,
		})
		if varied && !same {
			t.Fatalf("%s are different", name)
		}
		count.add(same)
	}
	count.check(t, 200)
}

func TestTypesAsTheChapterSays(t *testing.T) {
	g, ctx := newGen(3), ground()
	var count tally
	for range 1000 {
		some := g.typ
		if g.Intn(3) == 0 {
			some = g.prop
		}
		a, varied := some(ctx, 3), g.Intn(2) == 0
		b := g.varied(ctx, g.varied(ctx, a))
		if !varied {
			b = some(ctx, 1+g.Intn(3))
		}
		name := text(a) + " and " + text(b)
		same := agrees(t, g.tab, comparison{
			func(fuel int) (bool, api.Errno) { return conv.Types(g.tab, ctx, a, b, fuel) },
			func(l *literal) bool { return l.types(ctx, a, b) }, name,
		})
		if varied && !same {
			t.Fatalf("%s are different", name)
		}
		count.add(same)
	}
	count.check(t, 200)
}

// TestNeutralAsTheChapterSays compares the types that are returned, too: they are those that are said, as they are written.
func TestNeutralAsTheChapterSays(t *testing.T) {
	g, ctx := newGen(4), ground()
	var count tally
	for range 1000 {
		_, a, b, _ := g.two(ctx)
		a, _, _ = reduce.Head(g.tab, a, 500)
		b, _, _ = reduce.Head(g.tab, b, 500)
		if g.Intn(4) == 0 {
			b = g.reprovedAll(ctx, a)
		}
		name := text(a) + " and " + text(b)
		var want api.Term
		same := agrees(t, g.tab, comparison{
			func(fuel int) (bool, api.Errno) {
				typ, is, e := conv.Neutral(g.tab, ctx, a, b, fuel)
				if is && !term.Same(typ, want) || !is && !term.Same(typ, api.Term{}) {
					t.Fatalf("%s: the type %s, want %s", name, text(typ), text(want))
				}
				return is, e
			},
			func(l *literal) bool {
				typ, is := l.neutral(ctx, a, b)
				if is {
					want = typ
				}
				return is
			}, name,
		})
		count.add(same)
	}
	count.check(t, 200)
}
