package table_test

import (
	"math/rand"
	"slices"
	"strings"
	"testing"

	"tenet/api"
	"tenet/table"
	"tenet/term"
)

// P4.5

func TestRecursive(t *testing.T) {
	tab := with(basic(), family("D", "NAT", "(sig 0 NAT SELF)", "unit", "(pi 0 SELF unit)", "(data @Vec #0)", "(app 0 #0 (con @D 0 star star))", "(elim @D 0 star star star)", "(data @D{0} #0)"), family("D", "unit"), family("C", "unit", "@C", "(pi 0 @C unit)", "(sig 0 @C (data @C star))", "(sig 1 @C unit)", "(fst @C)", "(elim @C 0 star star star)"))
	for name, want := range map[string][]int{"Nat": {1}, "Bool": nil, "Vec": {1}, "Tree": {1}, "Box": nil, "D": {0, 2, 4, 5, 6}, "C": {2, 5}} {
		if l, e := table.Recursive(tab, name); e != api.OK || !slices.Equal(l, want) {
			t.Errorf("Recursive of %s is %v, %v, want %v", name, l, e, want)
		}
	}
	for _, name := range []string{"none", "", "plus", "proved", "claimed", "a"} {
		if l, e := table.Recursive(tab, name); e != api.ErrName || len(l) != 0 {
			t.Errorf("Recursive of %s is %v, %v", name, l, e)
		}
	}
	if _, e := table.Recursive(with(tableOf(assume("x", "true")), family("x", "unit")), "x"); e != api.ErrName {
		t.Errorf("Recursive of a name whose first declaration is no family: %v", e)
	}
}

func TestAssumes(t *testing.T) {
	odd := api.Decl{Kind: api.KAssume}
	for _, x := range []struct {
		tab  api.Table
		want []string
	}{
		{api.Table{}, nil}, {basic(), []string{"claimed"}}, {with(basic(), assume("b", "true"), define("c", "true", "trivial"), assume("a", "true")), []string{"claimed", "b", "a"}},
		{with(basic(), assume("claimed", "true"), odd, assume("plus", "#9"), assume("claimed", "true")), []string{"claimed", "claimed", "", "plus", "claimed"}}, {tableOf(hide("x", "true", "trivial"), family("y", "unit"), api.Decl{Name: "z", Kind: 5}), nil},
	} {
		if l := table.Assumes(x.tab); !slices.Equal(l, x.want) {
			t.Errorf("Assumes is %v, want %v", l, x.want)
		}
	}
}

func TestUses(t *testing.T) {
	tab := with(basic(), define("two", "NAT", "(app 0 @plus ZERO)"), assume("far", "(eq 0 NAT @two @two)"), family("D", "(eq 0 (data @Bool star) star star)", "(data @Box{0} star)", "SELF", "(app 1 @claimed (elim @Tree 0 star star star star star))"))
	for name, want := range map[string]string{"Nat": "", "plus": "Nat", "proved": "", "claimed": "Nat", "id": "", "Vec": "Nat", "Tree": "Nat", "two": "Nat plus", "far": "Nat plus two", "D": "Nat Bool claimed Box Tree"} {
		if l, e := table.Uses(tab, name); e != api.OK || strings.Join(l, " ") != want {
			t.Errorf("Uses of %s is %v, %v, want %s", name, l, e, want)
		}
	}
	for _, name := range []string{"none", "", "a", "star"} {
		if l, e := table.Uses(tab, name); e != api.ErrName || len(l) != 0 {
			t.Errorf("Uses of %s is %v, %v", name, l, e)
		}
	}
	if _, e := table.Uses(api.Table{}, "a"); e != api.ErrName {
		t.Errorf("Uses in no table: %v", e)
	}
}

// TestUsesOfOddTables asks of names that stand in circles, behind, twice or nowhere.
func TestUsesOfOddTables(t *testing.T) {
	tab := tableOf(define("d", "@none", "@c"), define("a", "@b", "@a"), define("b", "@c", "(app 0 @b @d)"), define("c", "@a", "@e"), define("e", "unit", "(data @c star)"), define("b", "@f", "@f"), define("f", "@c", "@g"), define("g", "unit", "star"))
	for name, want := range map[string]string{"d": "a b c e", "a": "d b c e", "b": "d a c e", "c": "d a b e", "e": "d a b c", "f": "d a b c e g", "g": ""} {
		if l, e := table.Uses(tab, name); e != api.OK || strings.Join(l, " ") != want {
			t.Errorf("Uses of %s is %v, %v, want %s", name, l, e, want)
		}
	}
}

// TestUsesIsTheDefinition compares with the least lists that contain what their members name.
func TestUsesIsTheDefinition(t *testing.T) {
	r := rand.New(rand.NewSource(6))
	for range 2000 {
		var tab api.Table
		n := 1 + r.Intn(8)
		for i := range n {
			name := func() string { return "@n" + string(rune('0'+r.Intn(n))) }
			d := define("n"+string(rune('0'+i)), name(), "star")
			if r.Intn(2) == 0 {
				d = family(d.Name, "unit", "unit", "(app 0 star "+name()+")")
			}
			tab.Decls = append(tab.Decls, d)
		}
		at := r.Intn(n)
		in := make([]bool, n)
		for range n {
			for i, d := range tab.Decls {
				for _, x := range append([]api.Term{d.Type}, armsOf(d)...) {
					for _, name := range term.Names(x) {
						in[name[1]-'0'] = in[name[1]-'0'] || in[i] || i == at
					}
				}
			}
		}
		var want []string
		for i := range n {
			if in[i] && i != at {
				want = append(want, tab.Decls[i].Name)
			}
		}
		if l, e := table.Uses(tab, tab.Decls[at].Name); e != api.OK || !slices.Equal(l, want) {
			t.Fatalf("Uses of %d in %+v: %v, %v, want %v", at, tab, l, e, want)
		}
	}
}

// armsOf returns the Args of a family.
func armsOf(d api.Decl) []api.Term {
	var l []api.Term
	for _, c := range d.Cons {
		l = append(l, c.Arg)
	}
	return l
}

func TestFits(t *testing.T) {
	tab := basic()
	for _, x := range []struct {
		s    string
		code api.Errno
		path []int
	}{
		{"star", api.OK, nil}, {"#7", api.OK, nil}, {"?7", api.OK, nil}, {"proof", api.OK, nil}, {"(type u9)", api.OK, nil}, {"(app 0 @plus ZERO)", api.OK, nil}, {"@claimed", api.OK, nil}, {"@proved", api.OK, nil}, {"(con @Box{u3} 0 star star)", api.OK, nil}, {"(elim @Bool 0 star star star star star)", api.OK, nil},
		{"@none", api.ErrLater, nil}, {"(app 0 @plus @none)", api.ErrLater, []int{1}}, {"(lam 0 unit (app 1 #0 (data @none star)))", api.ErrLater, []int{1, 1}}, {"@Nat", api.ErrLater, nil}, {"(data @plus star)", api.ErrLater, nil}, {"(con @claimed 0 star star)", api.ErrLater, nil}, {"(elim @id 0 star star star)", api.ErrLater, nil},
		{"@id", api.ErrArity, nil}, {"(fst @plus{0})", api.ErrArity, []int{0}}, {"(data @Nat{0} @none)", api.ErrArity, nil}, {"(data @none{0} @id)", api.ErrLater, nil}, {"(con @Nat 2 @none star)", api.ErrArity, nil}, {"(con @Nat 1 @none star)", api.ErrLater, []int{0}}, {"(con @Nat{0} 2 star star)", api.ErrArity, nil},
		{"(elim @Nat 0 star star star @none)", api.ErrArity, nil}, {"(elim @Nat 0 star star star star @none)", api.ErrLater, []int{4}}, {"(elim @Nat 0 star star star star star star)", api.ErrArity, nil}, {"(elim @Box{0} 1 (fst (snd @id)) @none star star)", api.ErrArity, []int{0, 0, 0}},
		{"(quo 0 star star star (pair 0 star star star @Bool) @id)", api.ErrLater, []int{3, 3}}, {"(app 0 (app 0 (app 0 star @id) @none) @none)", api.ErrArity, []int{0, 0, 1}},
	} {
		isFault(t, x.s, table.Fits(tab, parse(x.s)), x.code, x.path)
	}
	isFault(t, "a name in no table", table.Fits(api.Table{}, parse("(fst @plus)")), api.ErrLater, []int{0})
}

func TestFitsAsksForTheForm(t *testing.T) {
	tab := basic()
	for _, x := range []api.Term{{}, {Op: 31}, {Op: api.TUnit, N: 1}, {Op: api.TConst, S: "9"}, {Op: api.TConst}, {Op: api.TData, S: "Nat"}, node(api.TFst, api.Term{Op: api.TVar, N: -1}), {Op: api.TCon, S: "Nat", N: -1, L: []api.Term{parse("star"), parse("star")}}, {Op: api.TCon, S: "Nat", N: api.MaxCases, L: []api.Term{parse("star"), parse("star")}}} {
		isFault(t, "a term without its form", table.Fits(tab, x), api.ErrForm, nil)
		isFault(t, "a part without its form", table.Fits(tab, node(api.TApp, parse("@none"), x)), api.ErrForm, nil)
	}
	large, path := parse("@none"), []int(nil)
	for range 60000 {
		large = node(api.TApp, parse("star"), large)
		path = append(path, 1)
	}
	f := table.Fits(tab, large)
	if f.Code != api.ErrLater || !slices.Equal(f.Path, path) {
		t.Errorf("Fits of a large term: %v, a path of %d places", f.Code, len(f.Path))
	}
	isFault(t, "a wide term", table.Fits(tab, wide(100001)), api.OK, nil)
}

func TestFitsOfOddTables(t *testing.T) {
	tab := tableOf(assume("x", "prop"), family("x", "unit"), family("y", "unit"), family("y", "unit", "unit"), api.Decl{Name: "z", Kind: 9}, api.Decl{Name: "w", Kind: 0}, leveled(assume("v", "prop"), -1), family("D", "unit", "SELF"))
	for _, x := range []struct {
		s    string
		code api.Errno
	}{
		{"@x", api.OK}, {"(data @x star)", api.ErrLater}, {"(elim @y 0 star star star)", api.OK}, {"(elim @y 0 star star star star)", api.ErrArity}, {"(con @y 0 star star)", api.ErrArity}, {"@z", api.ErrLater}, {"(data @z star)", api.ErrLater}, {"@w", api.ErrLater}, {"(data @w star)", api.ErrLater}, {"@v", api.ErrArity}, {"(con @D 0 star star)", api.OK}, {"(data @D star)", api.OK},
	} {
		isFault(t, x.s, table.Fits(tab, parse(x.s)), x.code, nil)
	}
}
