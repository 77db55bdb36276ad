package table_test

import (
	"math"
	"slices"
	"strings"
	"testing"

	"tenet/api"
	"tenet/table"
)

// P4.1

// isLast checks what Check says of a declaration behind those of basic.
func isLast(t *testing.T, call string, d api.Decl, want api.Errno) {
	t.Helper()
	tab := with(basic(), d)
	at := -1
	if want != api.OK {
		at = len(tab.Decls) - 1
	}
	if i, e := table.Check(tab); i != at || e != want {
		t.Errorf("%s: Check is %d, %v, want %d, %v", call, i, e, at, want)
	}
}

func TestCheckTakesGoodTables(t *testing.T) {
	for _, tab := range []api.Table{{}, {Decls: []api.Decl{}}, basic(), tableOf(family("Empty", "unit"))} {
		if i, e := table.Check(tab); i != -1 || e != api.OK {
			t.Errorf("Check is %d, %v", i, e)
		}
	}
	for _, d := range []api.Decl{
		assume("x", "@claimed"), assume("x", "@proved"), define("x", "NAT", "@plus"), define("x", "@id{0}", "@id{max(u0,1)}"), hide("x", "(data @Box{3} unit)", "(con @Box{u1} 0 star star)"),
		define("x", "(elim @Nat 1 prop star star star star)", "(elim @Bool 0 prop star star star star)"), assume("x", "(con @Tree 1 star star)"), family("D", "NAT", "(data @D ZERO)", "(pi 1 NAT (data @D #1))"), family("D", "(data @Nat @plus)", "(con @Bool 1 star #0)"),
		assume("a", "prop"), family("b", "unit", "unit", "unit"), assume("x", "(data @Nat (data @Nat (data @Nat star)))"),
	} {
		if d.Kind != api.KData {
			d.Levels = 2
		}
		isLast(t, d.Name, d, api.OK)
	}
}

func TestCheckTellsTheFirst(t *testing.T) {
	bad, double, good := assume("x", "#0"), assume("plus", "true"), assume("y", "true")
	n := len(basic().Decls)
	for _, x := range []struct {
		tab  api.Table
		at   int
		want api.Errno
	}{
		{with(basic(), good, bad, double), n + 1, api.ErrForm}, {with(basic(), double, bad), n, api.ErrDouble}, {tableOf(bad), 0, api.ErrForm}, {tableOf(good, good, bad), 1, api.ErrDouble}, {tableOf(api.Decl{}), 0, api.ErrForm},
	} {
		if i, e := table.Check(x.tab); i != x.at || e != x.want {
			t.Errorf("Check is %d, %v, want %d, %v", i, e, x.at, x.want)
		}
	}
}

func TestCheckCountsDeclarations(t *testing.T) {
	var tab api.Table
	for i := range api.MaxDecls {
		tab.Decls = append(tab.Decls, assume("x"+strings.Repeat("y", i%12)+strings.Repeat("z", i/12), "true"))
	}
	if i, e := table.Check(tab); i != -1 || e != api.OK {
		t.Errorf("Check of %d declarations: %d, %v", api.MaxDecls, i, e)
	}
	for _, d := range []api.Decl{assume("w", "true"), {}} {
		if i, e := table.Check(with(tab, d)); i != 0 || e != api.ErrLimit {
			t.Errorf("Check of one more: %d, %v", i, e)
		}
	}
	if i, e := table.Check(api.Table{Decls: make([]api.Decl, 100000)}); i != 0 || e != api.ErrLimit {
		t.Errorf("Check of many: %d, %v", i, e)
	}
}

func TestCheckOfKindsNamesAndLevels(t *testing.T) {
	for _, kind := range []int{0, -1, 5, 9, math.MinInt, math.MaxInt} {
		d := assume("x", "true")
		d.Kind = kind
		isLast(t, "a Kind that there is not", d, api.ErrForm)
		isLast(t, "a Kind that there is not, of nothing", api.Decl{Name: "x", Kind: kind}, api.ErrForm)
	}
	for _, d := range []api.Decl{define("x", "true", "trivial"), hide("x", "true", "trivial"), assume("x", "true"), family("x", "unit", "unit")} {
		for name, want := range map[string]api.Errno{
			"_": api.OK, "a.b": api.OK, "x9.": api.OK, strings.Repeat("n", api.MaxName): api.OK, "": api.ErrForm, "9": api.ErrForm, ".a": api.ErrForm, "a b": api.ErrForm, "é": api.ErrForm, "a{": api.ErrForm, strings.Repeat("n", api.MaxName+1): api.ErrForm, "Nat": api.ErrDouble, "claimed": api.ErrDouble, "proved": api.ErrDouble, "plus": api.ErrDouble,
		} {
			d.Name = name
			isLast(t, "the name "+name, d, want)
		}
		d.Name = "x"
		for levels, want := range map[int]api.Errno{0: api.OK, 1: api.OK, api.MaxParams: api.OK, api.MaxParams + 1: api.ErrForm, -1: api.ErrForm, math.MinInt: api.ErrForm, math.MaxInt: api.ErrForm} {
			isLast(t, "the number of levels", leveled(d, levels), want)
		}
	}
}

// places puts a term into each field for a term that a Kind uses.
func places(x api.Term) map[string]api.Decl {
	all := map[string]api.Decl{"def type": define("x", "true", "trivial"), "def body": define("x", "true", "trivial"), "opaque type": hide("x", "true", "trivial"), "opaque body": hide("x", "true", "trivial"), "assume": assume("x", "true"), "param": family("x", "unit", "unit", "unit"), "arg 0": family("x", "unit", "unit", "unit"), "arg 1": family("x", "unit", "unit", "unit")}
	for place, d := range all {
		switch place {
		case "def type", "opaque type", "assume":
			d.Type = x
		case "def body", "opaque body":
			d.Body = x
		case "param":
			d.Param = x
		case "arg 0":
			d.Cons[0].Arg = x
		case "arg 1":
			d.Cons[1].Arg = x
		}
		all[place] = leveled(d, 2)
	}
	return all
}

func TestCheckOfTerms(t *testing.T) {
	canonical := func(a api.Level) api.Term { return api.Term{Op: api.TType, U: []api.Level{a}} }
	for _, x := range []struct {
		t    api.Term
		want api.Errno
	}{
		{parse("star"), api.OK}, {api.Term{}, api.ErrForm}, {api.Term{Op: 31}, api.ErrForm}, {node(api.TUnit, parse("star")), api.ErrForm}, {node(api.TFst, api.Term{}), api.ErrForm},
		{parse("?0"), api.ErrForm}, {parse("proof"), api.ErrForm}, {parse("(app 0 star (app 0 star ?3))"), api.ErrForm}, {parse("(app 1 star proof)"), api.ErrForm}, {parse("(lam 0 proof #0)"), api.ErrForm},
		{parse("#1"), api.ErrForm}, {parse("(lam 0 unit #0)"), api.OK}, {parse("(lam 0 unit #2)"), api.ErrForm}, {parse("(lam 0 #3 #0)"), api.ErrForm}, {parse("(elim @Nat 0 #1 star #2 star star)"), api.OK}, {parse("(elim @Nat 0 #3 star star star star)"), api.ErrForm},
		{parse("(type max(u0,u1))"), api.OK}, {parse("(type u2)"), api.ErrForm}, {parse("(app 0 (type u0) (type max(u1,u7)))"), api.ErrForm}, {parse("(data @Box{u2} star)"), api.ErrForm}, {canonical(lv(1, 0, 1)), api.ErrForm}, {canonical(lv(0, 1, 0, 0, 0)), api.ErrForm}, {canonical(lv(-1)), api.ErrForm},
		{deep(api.MaxDepth-1, parse("star")), api.OK}, {deep(api.MaxDepth, parse("star")), api.ErrForm}, {wide(api.MaxNodes - 1), api.OK}, {wide(api.MaxNodes + 1), api.ErrForm}, {wide(100001), api.ErrForm},
	} {
		for place, d := range places(x.t) {
			isLast(t, text(x.t)+" as "+place, d, x.want)
		}
	}
	for place, d := range places(parse("#0")) {
		want := api.ErrForm
		if strings.HasPrefix(place, "arg") {
			want = api.OK
		}
		isLast(t, "#0 as "+place, d, want)
	}
}

func TestCheckOfUnusedFields(t *testing.T) {
	fields := map[string]func(d *api.Decl){
		"def assume Param.Op": func(d *api.Decl) { d.Param.Op = api.TUnit }, "def assume Param.N": func(d *api.Decl) { d.Param.N = 1 }, "def assume Param.S": func(d *api.Decl) { d.Param.S = "a" }, "def assume Param.U": func(d *api.Decl) { d.Param.U = []api.Level{{}} }, "def assume Param.L": func(d *api.Decl) { d.Param.L = []api.Term{{}} },
		"def assume Over.Const": func(d *api.Decl) { d.Over.Const = 1 }, "def assume Over.Vars": func(d *api.Decl) { d.Over.Vars = []api.LVar{{}} }, "def assume Sort.Const": func(d *api.Decl) { d.Sort.Const = 1 }, "def assume Sort.Vars": func(d *api.Decl) { d.Sort.Vars = []api.LVar{{}} }, "def assume Cons": func(d *api.Decl) { d.Cons = []api.Con{{}} }, "def assume Cons ": func(d *api.Decl) { d.Cons = []api.Con{{Name: "a", Arg: parse("unit")}} },
		"assume data Body.Op": func(d *api.Decl) { d.Body.Op = api.TUnit }, "assume data Body.N": func(d *api.Decl) { d.Body.N = -1 }, "assume data Body.U": func(d *api.Decl) { d.Body.U = []api.Level{{}} },
		"data Type.Op": func(d *api.Decl) { d.Type.Op = api.TUnit }, "data Type.S": func(d *api.Decl) { d.Type.S = "a" }, "data Type.L": func(d *api.Decl) { d.Type.L = []api.Term{{}} },
	}
	empty := func(d *api.Decl) {
		none := api.Term{U: []api.Level{}, L: []api.Term{}}
		if d.Kind == api.KData {
			d.Type, d.Body, d.Over.Vars, d.Sort.Vars = none, none, []api.LVar{}, []api.LVar{}
			return
		}
		d.Param, d.Over.Vars, d.Sort.Vars, d.Cons = none, []api.LVar{}, []api.LVar{}, []api.Con{}
	}
	for kind, d := range map[string]api.Decl{"def": define("x", "true", "trivial"), "def ": hide("x", "true", "trivial"), "assume": assume("x", "true"), "data": family("x", "unit", "unit")} {
		d.Levels = 1
		for field, set := range fields {
			if !strings.Contains(field, strings.TrimSpace(kind)) {
				continue
			}
			bad := d
			set(&bad)
			isLast(t, kind+" with "+field, bad, api.ErrForm)
		}
		empty(&d)
		isLast(t, kind+" with empty lists", d, api.OK)
	}
}

func TestCheckOfFamilies(t *testing.T) {
	base := leveled(family("D", "unit", "unit"), 2)
	for _, x := range []struct {
		a    api.Level
		want api.Errno
	}{
		{lv(0), api.OK}, {lv(api.MaxOffset), api.OK}, {lv(3, 0, 0, 1, 2), api.OK}, {u(1), api.OK}, {u(2), api.ErrForm}, {lv(0, 0, 0, 2, 0), api.ErrForm}, {lv(-1), api.ErrForm}, {lv(api.MaxOffset + 1), api.ErrForm}, {lv(1, 0, 1), api.ErrForm}, {lv(0, 1, 0, 0, 0), api.ErrForm}, {lv(0, 0, 0, 0, 0), api.ErrForm}, {lv(0, -1, 0), api.ErrForm},
	} {
		over, sort := base, base
		over.Over, sort.Sort = x.a, x.a
		isLast(t, "Over", over, x.want)
		isLast(t, "Sort", sort, x.want)
	}
	var args []string
	for range api.MaxCases {
		args = append(args, "unit")
	}
	isLast(t, "as many constructors as there may be", family("D", "unit", args...), api.OK)
	isLast(t, "a constructor too many", family("D", "unit", append(args, "unit")...), api.ErrForm)
	for _, x := range []struct {
		names []string
		want  api.Errno
	}{
		{[]string{"a", "b", "c"}, api.OK}, {[]string{"D", "Nat", "plus"}, api.OK}, {[]string{"a", "b", "a"}, api.ErrDouble}, {[]string{"b", "b", "a"}, api.ErrDouble}, {[]string{"a", "", "b"}, api.ErrForm}, {[]string{"a", "b", "1"}, api.ErrForm}, {[]string{"a", "a", "1"}, api.ErrForm}, {[]string{"a", "b", strings.Repeat("c", 25)}, api.ErrForm},
	} {
		d := family("D", "unit", "unit", "unit", "unit")
		for i, name := range x.names {
			d.Cons[i].Name = name
		}
		isLast(t, strings.Join(x.names, " "), d, x.want)
	}
}

func TestCheckOfNames(t *testing.T) {
	for _, x := range []struct {
		s    string
		want api.Errno
	}{
		{"@none", api.ErrLater}, {"@x", api.ErrLater}, {"@Nat", api.ErrLater}, {"@a", api.ErrLater}, {"(data @none star)", api.ErrLater}, {"(data @plus star)", api.ErrLater}, {"(data @claimed star)", api.ErrLater}, {"(con @proved 0 star star)", api.ErrLater}, {"(elim @plus 0 star star star)", api.ErrLater}, {"(con @none 0 star star)", api.ErrLater}, {"(elim @none 0 star star star)", api.ErrLater}, {"(con @a 0 star star)", api.ErrLater},
		{"@plus{0}", api.ErrArity}, {"@id", api.ErrArity}, {"@id{0;0}", api.ErrArity}, {"@claimed{0}", api.ErrArity}, {"@proved{0}", api.ErrArity}, {"(data @Nat{0} star)", api.ErrArity}, {"(data @Box star)", api.ErrArity}, {"(con @Box 0 star star)", api.ErrArity}, {"(con @Nat{0} 0 star star)", api.ErrArity}, {"(elim @Nat{0} 0 star star star star star)", api.ErrArity},
		{"(con @Nat 2 star star)", api.ErrArity}, {"(con @Nat 1 star star)", api.OK}, {"(con @Box{0} 1 star star)", api.ErrArity}, {"(elim @Nat 0 star star star star)", api.ErrArity}, {"(elim @Nat 0 star star star star star)", api.OK}, {"(elim @Nat 0 star star star star star star)", api.ErrArity}, {"(elim @Box{0} 0 star star star)", api.ErrArity},
		{"(app 0 @id @none)", api.ErrArity}, {"(app 0 @none @id)", api.ErrLater}, {"(data @Nat{0} @none)", api.ErrArity}, {"(data @none @id)", api.ErrLater}, {"(app 0 (app 0 star @id) @none)", api.ErrArity}, {"(app 0 star (lam 0 @none @id))", api.ErrLater}, {"(app 1 star @none)", api.ErrLater}, {"(con @Nat 2 @none star)", api.ErrArity},
		{"(elim @none{0} 0 star star star)", api.ErrLater}, {"(app 0 @plus @plus)", api.OK},
	} {
		for place, d := range places(parse(x.s)) {
			isLast(t, x.s+" as "+place, d, x.want)
		}
	}
}

func TestCheckOfTheFamilyItself(t *testing.T) {
	for _, x := range []struct {
		s    string
		want api.Errno
	}{
		{"(data @D{u0;u1} star)", api.OK}, {"(data @D{u0} star)", api.ErrArity}, {"(data @D star)", api.ErrArity}, {"(data @D{u0;u1;u1} star)", api.ErrArity}, {"(data @D{u1;u0} star)", api.ErrPositive}, {"(data @D{u0;0} star)", api.ErrPositive}, {"(data @D{u0;u1} (data @D{u0;u1} star))", api.ErrPositive},
		{"(con @D{u0;u1} 0 star star)", api.ErrLater}, {"(elim @D{u0;u1} 0 star star star star)", api.ErrLater}, {"@D{u0;u1}", api.ErrLater}, {"@D", api.ErrLater}, {"(pi 0 @D (data @D{u0;u1} star))", api.ErrLater}, {"(sig 0 unit (pi 0 (data @D{u0;u1} star) @D))", api.ErrLater}, {"(sig 0 (data @D{u0;u1} (con @D{u0;u1} 0 star star)) unit)", api.ErrLater},
	} {
		d := leveled(family("D", "unit", x.s), 2)
		isLast(t, x.s, d, x.want)
	}
	for _, s := range []string{"(data @D{u0;u1} star)", "(data @D star)"} {
		isLast(t, "in the parameter's type", leveled(family("D", s, "unit"), 2), api.ErrLater)
		isLast(t, "in a definition of its name", leveled(define("D", s, "star"), 2), api.ErrLater)
		isLast(t, "in a body of its name", leveled(define("D", "unit", s), 2), api.ErrLater)
	}
	later := tableOf(family("A", "unit", "(data @B star)"), family("B", "unit", "unit"))
	if i, e := table.Check(later); i != 0 || e != api.ErrLater {
		t.Errorf("a family of a later one: %d, %v", i, e)
	}
}

func TestCheckTellsErrorsInOrder(t *testing.T) {
	form, double, later, arity, positive := "#0", "Nat", "@none", "@id", "(pi 0 (data @D star) unit)"
	twins := family(double, later, arity, positive)
	twins.Cons[1].Name = "a"
	isLast(t, "form first", define(double, later, form), api.ErrForm)
	isLast(t, "form of the last Arg", family(double, later, arity, "(pi 0 unit #2)"), api.ErrForm)
	isLast(t, "a double name", define(double, later, arity), api.ErrDouble)
	isLast(t, "a double name, of a family", family(double, later, positive), api.ErrDouble)
	isLast(t, "double constructors", twins, api.ErrDouble)
	isLast(t, "Type before Body", define("x", later, arity), api.ErrLater)
	isLast(t, "Type before Body", define("x", arity, later), api.ErrArity)
	isLast(t, "Param before Args", family("D", later, arity), api.ErrLater)
	isLast(t, "Param before Args", family("D", arity, later), api.ErrArity)
	isLast(t, "Args in order", family("D", "unit", "unit", arity, later), api.ErrArity)
	isLast(t, "Args in order", family("D", "unit", "unit", later, arity), api.ErrLater)
	isLast(t, "names before positivity", family("D", "unit", positive, arity), api.ErrArity)
	isLast(t, "names before positivity", family("D", "unit", positive, later), api.ErrLater)
	isLast(t, "positivity", family("D", "unit", "unit", positive), api.ErrPositive)
}

func TestFind(t *testing.T) {
	tab := with(basic(), family("plus", "unit"), api.Decl{}, assume("claimed", "true"))
	for name, want := range map[string]int{"Nat": 0, "plus": 2, "claimed": 4, "Tree": 8, "": 10, "none": -1, "a": -1, "nat": -1, "Na": -1} {
		if i := table.Find(tab, name); i != want {
			t.Errorf("Find(%q) is %d, want %d", name, i, want)
		}
	}
	if table.Find(api.Table{}, "a") != -1 || table.Find(basic(), "") != -1 {
		t.Error("Find finds what there is not")
	}
}

// TestCheckChangesNothing compares a table before and after calls.
func TestCheckChangesNothing(t *testing.T) {
	tab := basic()
	table.Check(tab)
	table.Fits(tab, parse("@plus"))
	table.Uses(tab, "Vec")
	if !slices.EqualFunc(termsOf(tab), termsOf(basic()), equal) {
		t.Error("a table is changed")
	}
}
