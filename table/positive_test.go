package table_test

import (
	"math/rand"
	"slices"
	"testing"

	"tenet/api"
	"tenet/table"
)

// P4.2

// isFault checks a fault, and that there is no path where there is none.
func isFault(t *testing.T, call string, got api.Fault, code api.Errno, path []int) {
	t.Helper()
	if got.Code != code || !slices.Equal(got.Path, path) {
		t.Errorf("%s: %v, want %v at %v", call, got, code, path)
	}
}

func TestPositiveTakes(t *testing.T) {
	for _, s := range []string{
		"unit", "#0", "(data @E star)", "(pi 3 unit true)", "SELF", "(data @D (fst #0))", "(pi 0 unit SELF)", "(pi 1 true SELF)", "(pi 0 (pi 2 unit true) (pi 1 true (pi 0 #1 SELF)))", "(sig 0 SELF SELF)", "(sig 0 unit (data @D #0))", "(pi 0 unit (data @D #0))",
		"(sig 1 true (data @D #0))", "(sig 2 SELF (eq 0 unit star star))", "(sig 2 SELF #1)", "(sig 3 true true)", "(sig 0 SELF (sig 0 SELF SELF))", "(sig 0 (sig 0 SELF (pi 0 unit SELF)) (sig 0 unit (data @D #0)))", "(sig 0 SELF (lam 0 unit #0))", "(sig 0 SELF (elim @Nat 0 #0 #0 star star))", "(sig 0 SELF (pi 0 #1 (data @D #0)))", "(sig 0 unit (sig 0 SELF (data @D #1)))",
		// A constant is no occurrence of the family, also one with its name.
		"@D", "@D{0}", "(pi 0 @D unit)", "(pi 2 unit @D)", "(pi 0 @D SELF)", "(sig 1 @D unit)", "(sig 3 @D @D)", "(sig 0 @D (data @D #0))", "(sig 1 @D SELF)", "(sig 2 SELF @D)", "(fst @D)", "(data @D @D)", "(data @E @D)",
	} {
		isFault(t, s, table.Positive(api.Table{}, family("D", "unit", "unit", s, "unit")), api.OK, nil)
	}
}

func TestPositiveTellsTheReason(t *testing.T) {
	for _, x := range []struct {
		s    string
		path []int
	}{
		{"(pi 0 SELF unit)", nil}, {"(pi 2 unit SELF)", nil}, {"(pi 3 true SELF)", nil}, {"(pi 0 SELF SELF)", nil}, {"(pi 0 (pi 0 SELF unit) SELF)", nil}, {"(pi 2 SELF (pi 0 SELF unit))", nil}, {"(pi 0 unit (pi 0 unit (pi 0 SELF unit)))", []int{1, 1}},
		{"(app 0 #0 SELF)", nil}, {"(fst (con @D 0 star star))", nil}, {"(con @D 0 star star)", nil}, {"(elim @D 0 unit star star)", nil}, {"(data @E SELF)", nil}, {"(data @E (con @D 0 star star))", nil}, {"(lam 0 unit SELF)", nil}, {"(eq 0 SELF #0 #0)", nil}, {"(quo 0 SELF true trivial trivial trivial)", nil},
		{"(pi 0 SELF @D)", nil}, {"(app 0 @D SELF)", nil}, {"(sig 0 @D (pi 2 unit SELF))", []int{1}}, {"(sig 0 SELF (app 0 @D #0))", nil}, {"(data @D (app 0 @D SELF))", nil}, {"(data @D{0} @D)", nil},
		{"(data @D SELF)", nil}, {"(data @D{0} star)", nil}, {"(data @D (lam 0 SELF star))", nil}, {"(pi 0 unit (data @D{u0} star))", []int{1}}, {"(sig 0 unit (data @D SELF))", []int{1}},
		{"(sig 1 SELF unit)", nil}, {"(sig 2 unit SELF)", nil}, {"(sig 3 SELF SELF)", nil}, {"(sig 3 true SELF)", nil}, {"(sig 2 (pi 0 SELF unit) SELF)", nil}, {"(sig 1 (pi 0 SELF unit) SELF)", nil}, {"(sig 2 (pi 0 SELF unit) unit)", []int{0}}, {"(sig 1 true (pi 0 SELF unit))", []int{1}},
		{"(sig 0 (pi 0 SELF unit) (pi 0 SELF unit))", []int{0}}, {"(sig 0 SELF (pi 0 SELF unit))", []int{1}}, {"(sig 0 unit (sig 0 (pi 0 unit (app 0 #0 SELF)) SELF))", []int{1, 0, 1}},
		{"(sig 0 SELF (data @D #0))", nil}, {"(sig 0 SELF #0)", nil}, {"(sig 2 SELF (eq 0 unit #0 #0))", nil}, {"(sig 0 SELF (pi 0 unit #1))", nil}, {"(sig 0 (pi 0 unit SELF) (sig 0 unit #1))", nil}, {"(sig 0 SELF (elim @Nat 0 #2 #0 star star))", nil}, {"(sig 0 SELF (quo 0 unit #2 star star star))", nil},
		{"(sig 0 SELF (pi 0 (data @D #0) unit))", nil}, {"(sig 0 (pi 0 SELF unit) (data @D #0))", []int{0}}, {"(sig 0 unit (sig 0 SELF (data @D #0)))", []int{1}}, {"(sig 0 SELF (sig 0 SELF (data @D #1)))", nil}, {"(sig 0 (sig 0 SELF (data @D #0)) #0)", []int{0}},
	} {
		for k := range 3 {
			args := []string{"unit", "unit", "unit", "(pi 0 SELF unit)"}
			args[k] = x.s
			isFault(t, x.s, table.Positive(api.Table{}, family("D", "unit", args...)), api.ErrPositive, append([]int{k}, x.path...))
		}
	}
}

func TestPositiveOfLevels(t *testing.T) {
	for _, x := range []struct {
		levels int
		u      []api.Level
		want   api.Errno
	}{
		{0, nil, api.OK}, {0, []api.Level{}, api.OK}, {0, []api.Level{u(0)}, api.ErrPositive}, {1, nil, api.ErrPositive}, {1, []api.Level{u(0)}, api.OK}, {1, []api.Level{u(1)}, api.ErrPositive}, {1, []api.Level{lv(0)}, api.ErrPositive}, {1, []api.Level{lv(0, 0, 1)}, api.ErrPositive}, {1, []api.Level{lv(1, 0, 0)}, api.ErrPositive}, {1, []api.Level{lv(0, 0, 0, 1, 0)}, api.ErrPositive},
		{2, []api.Level{u(0), u(1)}, api.OK}, {2, []api.Level{u(1), u(0)}, api.ErrPositive}, {2, []api.Level{u(0), u(0)}, api.ErrPositive}, {2, []api.Level{u(0)}, api.ErrPositive}, {2, []api.Level{u(0), u(1), u(2)}, api.ErrPositive}, {-1, nil, api.ErrPositive}, {1 << 40, []api.Level{u(0)}, api.ErrPositive},
	} {
		d := family("D", "unit", "unit")
		d.Levels = x.levels
		d.Cons[0].Arg = node(api.TPi, parse("unit"), api.Term{Op: api.TData, S: "D", U: x.u, L: []api.Term{parse("star")}})
		path := []int{0, 1}
		if x.want == api.OK {
			path = nil
		}
		isFault(t, "levels", table.Positive(api.Table{}, d), x.want, path)
	}
}

func TestPositiveOfOtherKinds(t *testing.T) {
	for kind := -1; kind < 7; kind++ {
		d := family("D", "unit", "(pi 0 SELF unit)")
		d.Kind, d.Type = kind, parse("SELF")
		want, path := api.OK, []int(nil)
		if kind == api.KData {
			want, path = api.ErrPositive, []int{0}
		}
		isFault(t, "a Kind", table.Positive(basic(), d), want, path)
	}
	isFault(t, "no declaration", table.Positive(api.Table{}, api.Decl{}), api.OK, nil)
	isFault(t, "a name that there is", table.Positive(basic(), family("Nat", "unit", "NAT", "(pi 0 NAT unit)")), api.ErrPositive, []int{1})
	many := family("D", "unit")
	many.Cons = make([]api.Con, 100)
	many.Cons[99].Arg = parse("(app 0 star SELF)")
	isFault(t, "many constructors", table.Positive(api.Table{}, many), api.ErrPositive, []int{99})
}

// TestPositiveIsTheDefinition compares with the definition, also for terms that have not their form.
func TestPositiveIsTheDefinition(t *testing.T) {
	r := rand.New(rand.NewSource(4))
	faults := 0
	for i := range 40000 {
		d := leveled(family("D", "unit"), r.Intn(3))
		var path []int
		for k := range 3 {
			arg := anyArg(r, d, 1+i%5)
			d.Cons = append(d.Cons, api.Con{Name: "c", Arg: arg})
			if path == nil && !isArgument(d, arg) {
				path = append([]int{k}, reason(d, arg)...)
			}
		}
		want := api.OK
		if path != nil {
			want = api.ErrPositive
			faults++
		}
		f := table.Positive(api.Table{}, d)
		if f.Code != want || !slices.Equal(f.Path, path) {
			t.Fatalf("Positive of %+v: %v, want %v at %v", d, f, want, path)
		}
	}
	if faults < 2000 || faults > 38000 {
		t.Errorf("%d of the families are not positive", faults)
	}
}

func TestPositiveOfLargeArgs(t *testing.T) {
	chain, path := parse("(app 0 #0 SELF)"), []int{0}
	for range 60000 {
		chain = node(api.TSigma, parse("SELF"), chain)
		path = append(path, 1)
	}
	d := family("D", "unit", "unit")
	d.Cons[0].Arg = chain
	f := table.Positive(api.Table{}, d)
	// The variable of the innermost node is bound by the innermost pair type, for an element of the family.
	if f.Code != api.ErrPositive || !slices.Equal(f.Path, path[:60000]) {
		t.Errorf("Positive of a long chain: %v, a path of %d places", f.Code, len(f.Path))
	}
	d.Cons[0].Arg = wide(1000001)
	isFault(t, "a wide term", table.Positive(api.Table{}, d), api.OK, nil)
}
