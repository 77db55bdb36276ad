package table_test

import (
	"testing"

	"tenet/api"
	"tenet/table"
)

// P4.3

// isTerm checks a result that is a term and an error.
func isTerm(t *testing.T, call string, got api.Term, e api.Errno, want string, code api.Errno) {
	t.Helper()
	if e != code || code == api.OK && !equal(got, parse(want)) || code != api.OK && !isZero(got) {
		t.Errorf("%s is %s, %v, want %s, %v", call, text(got), e, want, code)
	}
}

// levels is a table with level parameters everywhere.
func levels() api.Table {
	d := leveled(family("D", "(type max(u0,u1+1))", "#0", "(pi 0 (type u1) (data @D{u0;u1} #1))", "(sig 0 (type u0) (app 0 (lam 0 #0 #2) #3))"), 2)
	d.Over, d.Sort = lv(0, 0, 1, 1, 2), lv(4, 1, 1)
	hidden, claim := leveled(hide("h", "(type u1)", "(type u0)"), 2), leveled(assume("c", "(type max(u0,u1))"), 2)
	return tableOf(d, leveled(define("f", "(type u0+1)", "(data @D{u1;u0} (type u0))"), 2), hidden, claim)
}

func TestInstances(t *testing.T) {
	tab := levels()
	at := []api.Level{lv(0, 7, 2), lv(3)}
	x, e := table.TypeOf(tab, "f", at)
	isTerm(t, "TypeOf f", x, e, "(type u7+3)", api.OK)
	x, e = table.TypeOf(tab, "h", at)
	isTerm(t, "TypeOf h", x, e, "(type 3)", api.OK)
	x, e = table.TypeOf(tab, "c", at)
	isTerm(t, "TypeOf c", x, e, "(type max(u7+2,3))", api.OK)
	x, e = table.Param(tab, "D", at)
	isTerm(t, "Param", x, e, "(type max(u7+2,4))", api.OK)
	for k, want := range []string{"(fst #5)", "(pi 0 (type 3) (data @D{u7+2;3} (fst #6)))", "(sig 0 (type u7+2) (app 0 (lam 0 #0 (fst #7)) #2))"} {
		x, e = table.Arg(tab, "D", at, k, parse("(fst #5)"))
		isTerm(t, "Arg", x, e, want, api.OK)
	}
	if l, e := table.Over(tab, "D", at); e != api.OK || !equalLevels(l, lv(5, 7, 3)) {
		t.Errorf("Over is %+v, %v", l, e)
	}
	if l, e := table.Sort(tab, "D", at); e != api.OK || !equalLevels(l, lv(4)) {
		t.Errorf("Sort is %+v, %v", l, e)
	}
}

func TestBodyOf(t *testing.T) {
	tab := levels()
	at := []api.Level{lv(2), u(5)}
	for _, x := range []struct {
		name string
		u    []api.Level
		want string
		has  bool
		code api.Errno
	}{
		{"f", at, "(data @D{u5;2} (type 2))", true, api.OK}, {"h", at, "", false, api.OK}, {"c", at, "", false, api.OK}, {"D", at, "", false, api.ErrName}, {"none", nil, "", false, api.ErrName},
		{"f", nil, "", false, api.ErrArity}, {"h", at[:1], "", false, api.ErrArity}, {"c", append(at, at...), "", false, api.ErrArity}, {"f", []api.Level{lv(-1), lv(0)}, "", false, api.ErrForm},
	} {
		got, has, e := table.BodyOf(tab, x.name, x.u)
		if e != x.code || has != x.has || has && !equal(got, parse(x.want)) || !has && !isZero(got) {
			t.Errorf("BodyOf %s is %s, %v, %v", x.name, text(got), has, e)
		}
	}
}

// calls has the functions of P4.3 that put levels into something, as functions that tell the error, and whether there is a result beside it.
func calls(tab api.Table) map[string]func(name string, u []api.Level) (api.Errno, bool) {
	ofTerm := func(x api.Term, e api.Errno) (api.Errno, bool) { return e, !isZero(x) }
	ofLevel := func(a api.Level, e api.Errno) (api.Errno, bool) { return e, a.Const != 0 || a.Vars != nil }
	return map[string]func(name string, u []api.Level) (api.Errno, bool){
		"TypeOf": func(name string, u []api.Level) (api.Errno, bool) { return ofTerm(table.TypeOf(tab, name, u)) },
		"BodyOf": func(name string, u []api.Level) (api.Errno, bool) {
			x, has, e := table.BodyOf(tab, name, u)
			return e, has || !isZero(x)
		},
		"Param": func(name string, u []api.Level) (api.Errno, bool) { return ofTerm(table.Param(tab, name, u)) },
		"Over":  func(name string, u []api.Level) (api.Errno, bool) { return ofLevel(table.Over(tab, name, u)) },
		"Sort":  func(name string, u []api.Level) (api.Errno, bool) { return ofLevel(table.Sort(tab, name, u)) },
		"Arg": func(name string, u []api.Level) (api.Errno, bool) {
			return ofTerm(table.Arg(tab, name, u, 1, parse("star")))
		},
	}
}

func TestErrorsOfInstances(t *testing.T) {
	tab := levels()
	bad, big := lv(-1), lv(api.MaxOffset)
	for _, x := range []struct {
		u    []api.Level
		code api.Errno
	}{
		{nil, api.ErrArity}, {[]api.Level{u(0)}, api.ErrArity}, {[]api.Level{bad}, api.ErrArity}, {[]api.Level{u(0), u(1), u(2)}, api.ErrArity}, {[]api.Level{bad, bad}, api.ErrForm}, {[]api.Level{lv(0, 1200, 0), lv(0, 0, 0, 0, 0)}, api.ErrForm},
	} {
		for name, call := range calls(tab) {
			of := "D"
			if name == "TypeOf" || name == "BodyOf" {
				of = "f"
			}
			if e, has := call(of, x.u); e != x.code || has {
				t.Errorf("%s for %+v: %v, %v, want %v", name, x.u, e, has, x.code)
			}
		}
	}
	for name, call := range calls(tab) {
		for _, of := range []string{"none", "", "a", "star"} {
			if e, has := call(of, nil); e != api.ErrName || has {
				t.Errorf("%s of %s: %v, %v", name, of, e, has)
			}
		}
		of := map[bool][]string{true: {"D"}, false: {"f", "h", "c"}}[name == "TypeOf" || name == "BodyOf"]
		for _, s := range of {
			if e, has := call(s, nil); e != api.ErrName || has {
				t.Errorf("%s of %s: %v, %v", name, s, e, has)
			}
		}
	}
	for name, want := range map[string]api.Errno{"TypeOf": api.ErrLimit, "BodyOf": api.OK, "Param": api.OK, "Over": api.ErrLimit, "Sort": api.OK, "Arg": api.OK} {
		of := "D"
		if name == "TypeOf" || name == "BodyOf" {
			of = "f"
		}
		if e, has := calls(tab)[name](of, []api.Level{big, lv(0)}); e != want || has != (want == api.OK) {
			t.Errorf("%s for a level that is too great: %v, %v, want %v", name, e, has, want)
		}
	}
	// A level that is put in nowhere is not looked at.
	if x, e := table.TypeOf(tab, "f", []api.Level{lv(0), bad}); e != api.OK || !equal(x, parse("(type 1)")) {
		t.Errorf("TypeOf for a bad level that does not occur: %s, %v", text(x), e)
	}
}

func TestErrorsOfArg(t *testing.T) {
	tab := levels()
	good, bad := []api.Level{u(0), u(1)}, []api.Level{lv(-1), lv(-1)}
	for _, x := range []struct {
		name string
		u    []api.Level
		k    int
		want api.Errno
	}{
		{"none", nil, -1, api.ErrName}, {"f", good, 0, api.ErrName}, {"D", nil, 0, api.ErrArity}, {"D", good, -1, api.ErrArity}, {"D", good, 3, api.ErrArity}, {"D", good, 1 << 62, api.ErrArity}, {"D", bad, 3, api.ErrArity}, {"D", bad, 1, api.ErrForm}, {"D", bad, 0, api.OK}, {"D", good, 2, api.OK},
	} {
		got, e := table.Arg(tab, x.name, x.u, x.k, parse("(type u3)"))
		if e != x.want || isZero(got) != (x.want != api.OK) {
			t.Errorf("Arg of %s, %d: %s, %v, want %v", x.name, x.k, text(got), e, x.want)
		}
	}
}

// TestOddTables asks tables that Check does not take.
func TestOddTables(t *testing.T) {
	tab := tableOf(assume("x", "prop"), family("x", "unit", "unit"), define("x", "true", "trivial"), family("y", "#3", "(app 0 #0 #2)"), assume("y", "prop"))
	tab.Decls[3].Sort, tab.Decls[3].Over = lv(-1), lv(1, 0, 3)
	tab = with(tab, api.Decl{Name: "z", Kind: 7, Type: parse("unit"), Body: parse("star")}, leveled(assume("w", "prop"), -1))
	x, e := table.TypeOf(tab, "x", nil)
	isTerm(t, "the first x", x, e, "prop", api.OK)
	_, has, e := table.BodyOf(tab, "x", nil)
	if has || e != api.OK {
		t.Errorf("the first x has a body: %v", e)
	}
	x, e = table.Param(tab, "x", nil)
	isTerm(t, "the second x", x, e, "", api.ErrName)
	x, e = table.TypeOf(tab, "y", nil)
	isTerm(t, "the second y", x, e, "", api.ErrName)
	x, e = table.Param(tab, "y", nil)
	isTerm(t, "an open parameter", x, e, "#3", api.OK)
	x, e = table.Arg(tab, "y", nil, 0, parse("#5"))
	isTerm(t, "an open Arg", x, e, "(app 0 #5 #1)", api.OK)
	if a, e := table.Sort(tab, "y", nil); e != api.ErrForm || a.Const != 0 {
		t.Errorf("a Sort that is none: %+v, %v", a, e)
	}
	if a, e := table.Over(tab, "y", nil); e != api.OK || !equalLevels(a, lv(0, 0, 3)) {
		t.Errorf("an Over that is not canonical: %+v, %v", a, e)
	}
	x, e = table.TypeOf(tab, "z", nil)
	isTerm(t, "another Kind", x, e, "", api.ErrName)
	x, e = table.TypeOf(tab, "w", nil)
	isTerm(t, "less than no levels", x, e, "", api.ErrArity)
}

// TestInstancesAreNew looks at the memory of results.
func TestInstancesAreNew(t *testing.T) {
	tab, at, p := levels(), []api.Level{lv(0, 7, 2), lv(3, 1, 0)}, parse("(app 0 (type u0) (type max(u1,u2)))")
	args := append(termsOf(tab), p, api.Term{U: at})
	for range 2 {
		for _, name := range []string{"f", "h", "c"} {
			x, _ := table.TypeOf(tab, name, at)
			isWhole(t, "TypeOf", x, args...)
		}
		x, _, _ := table.BodyOf(tab, "f", at)
		isWhole(t, "BodyOf", x, args...)
		x, _ = table.Param(tab, "D", at)
		isWhole(t, "Param", x, args...)
		for k := range 3 {
			x, _ = table.Arg(tab, "D", at, k, p)
			isWhole(t, "Arg", x, args...)
		}
		over, _ := table.Over(tab, "D", []api.Level{u(0), u(1)})
		over.Vars[0].V = 9
		sort, _ := table.Sort(tab, "D", []api.Level{u(0), u(1)})
		sort.Vars[0].V = 9
	}
	for i, x := range termsOf(tab) {
		if !equal(x, termsOf(levels())[i]) {
			t.Error("a table is changed")
		}
	}
	if d := levels().Decls[0]; !equalLevels(tab.Decls[0].Over, d.Over) || !equalLevels(tab.Decls[0].Sort, d.Sort) {
		t.Error("a level of a table is changed")
	}
}
