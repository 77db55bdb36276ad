package reduce_test

import (
	"testing"

	"tenet/api"
	"tenet/reduce"
)

// P5.3

// isNumeral checks a call of Numeral.
func isNumeral(t *testing.T, tab api.Table, s api.Term, fuel, want int, code api.Errno) {
	t.Helper()
	if n, e := reduce.Numeral(tab, s, fuel); n != want || e != code {
		t.Errorf("Numeral of %s with fuel %d: %d, %v, want %d, %v", text(s), fuel, n, e, want, code)
	}
}

// sumOf returns the application of plus or times.
func sumOf(f string, a, b api.Term) api.Term {
	return node(api.TApp, node(api.TApp, parse(f), a), b)
}

func TestNumerals(t *testing.T) {
	tab := basic()
	for _, c := range []struct {
		from  string
		want  int
		steps int
	}{
		{"ZERO", 0, 0},
		{"(con @Nat 0 @lost @lost)", 0, 0},
		{num(3), 3, 0},
		{"@two", 2, 6},
		{"(con @Nat 1 @lost @two)", 3, 6},
		{"(con @Nat 1 star (con @Nat 1 star (fst (pair 0 unit unit ONE #7))))", 3, 1},
		{"(app 0 (app 0 @plus " + num(2) + ") " + num(3) + ")", 5, 6},
		{"(app 0 (app 0 @times " + num(2) + ") " + num(3) + ")", 6, 20},
		{"(cast 0 NAT NAT #7 " + num(3) + ")", 3, 4},
	} {
		s := parse(c.from)
		for _, fuel := range []int{c.steps, c.steps + 1, api.MaxFuel, 1 << 40} {
			isNumeral(t, tab, s, fuel, c.want, api.OK)
		}
		if c.steps > 0 {
			isNumeral(t, tab, s, c.steps-1, 0, api.ErrFuel)
			isNumeral(t, tab, s, -1, 0, api.ErrFuel)
		} else {
			isNumeral(t, tab, s, -5, c.want, api.OK)
		}
	}
}

// TestNoNumerals is about heads that are no natural numbers, and what comes first.
func TestNoNumerals(t *testing.T) {
	tab := with(basic(),
		family("Other", "unit", "unit", "(data @Other star)"),
		family("Params", "NAT", "unit", "(data @Params (con @Nat 1 star #0))"),
		leveled(family("Leveled", "unit", "unit", "(data @Leveled{u0;u1} star)"), 2),
		leveled(family("Swapped", "unit", "unit", "(data @Swapped{u1;u0} star)"), 2),
		family("Back", "unit", "(data @Back star)", "unit"),
		family("Pairs", "unit", "unit", "(sig 0 unit (data @Pairs star))"),
		family("Prop", "unit", "true", "(data @Prop star)"),
		family("Three", "unit", "unit", "(data @Three star)", "unit"),
		family("Knot", "unit", "unit", "(data @Knot (con @Knot 0 star star))"),
		define("loop", "NAT", "@loop"),
	)
	for _, c := range []struct {
		from string
		want int
		code api.Errno
	}{
		{"(con @Other 1 star (con @Other 0 star star))", 1, api.OK},
		{"(con @Params 1 ONE (con @Params 1 @two (con @Params 0 ZERO star)))", 2, api.OK},
		{"(con @Leveled{0;0} 1 star (con @Leveled{0;0} 0 star star))", 1, api.OK},
		{"(con @Leveled{0} 1 star (con @Leveled{0;0} 0 star star))", 0, api.ErrRun},
		{"(con @Swapped{0;0} 0 star star)", 0, api.ErrRun},
		{"(con @Back 1 star star)", 0, api.ErrRun},
		{"(con @Pairs 0 star star)", 0, api.ErrRun},
		{"(con @Prop 0 star star)", 0, api.ErrRun},
		{"(con @Three 0 star star)", 0, api.ErrRun},
		{"(con @Knot 0 star star)", 0, api.ErrRun},
		{"(con @Nat{0} 0 star star)", 0, api.ErrRun},
		{"(con @Nat 2 star star)", 0, api.ErrRun},
		{"YES", 0, api.ErrRun},
		{"(con @lost 0 star star)", 0, api.ErrRun},
		{"(con @plus 0 star star)", 0, api.ErrRun},
		{"star", 0, api.ErrRun},
		{"NAT", 0, api.ErrRun},
		{"#0", 0, api.ErrRun},
		{"@claimed", 0, api.ErrRun},
		{"@hidden", 0, api.ErrRun},
		{"(con @Nat 1 star @claimed)", 0, api.ErrRun},
		{"(con @Nat 1 star @loop)", 0, api.ErrFuel},
		{"(app 0 (app 0 @plus @claimed) @loop)", 0, api.ErrRun},
		{"(app 0 (app 0 @plus @loop) @claimed)", 0, api.ErrFuel},
	} {
		isNumeral(t, tab, parse(c.from), api.MaxFuel, c.want, c.code)
	}
}

// TestGreatestNumerals is about numbers of about 10000.
func TestGreatestNumerals(t *testing.T) {
	tab := with(basic(),
		define("endless", "NAT", "(con @Nat 1 star @endless)"),
		define("thousand", "NAT", "ZERO"),
	)
	tab.Decls[len(tab.Decls)-1].Body = number(1000)
	isNumeral(t, tab, number(9998), 0, 9998, api.OK)
	isNumeral(t, tab, sumOf("@plus", number(4990), number(4990)), api.MaxFuel, 9980, api.OK)
	isNumeral(t, tab, sumOf("@times", number(10), parse("@thousand")), api.MaxFuel, 10000, api.OK)
	isNumeral(t, tab, sumOf("@times", number(100), number(100)), api.MaxFuel, 10000, api.OK)
	more := sumOf("@times", number(10), parse("@thousand"))
	more = api.Term{Op: api.TCon, S: "Nat", N: 1, L: []api.Term{parse("star"), more}}
	isNumeral(t, tab, more, api.MaxFuel, 0, api.ErrLimit)
	// The 10001st constructor comes after as many unfoldings.
	isNumeral(t, tab, parse("@endless"), 10001, 0, api.ErrLimit)
	isNumeral(t, tab, parse("@endless"), 10000, 0, api.ErrFuel)
	isNumeral(t, tab, number(9998), -1, 9998, api.OK)
}

// TestNumeralsOfLargeTerms: each Head counts the nodes of its own term.
func TestNumeralsOfLargeTerms(t *testing.T) {
	tab := basic()
	inner := node(api.TApp, parse("(lam 0 unit (fst (pair 0 unit unit ZERO (app 0 #0 #0))))"), sized(9000))
	isNumeral(t, tab, inner, 10, 0, api.OK)
	wrapped := inner
	for range 900 {
		wrapped = api.Term{Op: api.TCon, S: "Nat", N: 1, L: []api.Term{parse("star"), wrapped}}
	}
	isNumeral(t, tab, wrapped, 10, 900, api.OK)
	large := node(api.TApp, parse("(lam 0 unit (fst (pair 0 unit unit ZERO (app 0 #0 #0))))"), sized(10000))
	isNumeral(t, tab, large, 10, 0, api.ErrFuel)
}
