package reduce_test

import (
	"slices"
	"strconv"
	"strings"
	"testing"

	"tenet/api"
	"tenet/reduce"
	"tenet/table"
	"tenet/term"
)

// P5.1, for tables and terms with any names

// constant is a definition's name with the level n.
func constant(name string, n int) api.Term {
	return api.Term{Op: api.TConst, S: name, U: []api.Level{lv(n)}}
}

// TestUnusedNames: a name that is chosen is a name, and none that there is already, however often one is chosen.
func TestUnusedNames(t *testing.T) {
	terms := []api.Term{parse("unit"), parse("(lam 0 (data @A star) (con @B 0 star (elim @C 0 unit star @D)))"), {Op: 99, S: "E", L: []api.Term{constant("F", 0), {Op: api.TData, S: "_2"}}}}
	for range 200 {
		name := reduce.UnusedName(terms...)
		if !term.Form(constant(name, 0)) {
			t.Fatalf("%q is no name", name)
		}
		for _, x := range terms {
			if slices.Contains(term.Names(x), name) {
				t.Fatalf("%s is a name of %s", name, text(x))
			}
		}
		// The next name is another one, wherever this one stands.
		at := len(term.Names(terms[0])) % len(terms)
		terms[at] = node(api.TApp, terms[at], constant(name, 0))
	}
}

// manyNames are names that something might take for its own: strange ones, those that a step has chosen once, and those that it chooses, one after the other, if those before are taken.
func manyNames() []string {
	names := []string{"X", "_", "_.", "__", "a.b", "stand.in", "_.stand.in_of_reduce._", "_.stand.in_of_table._", "_.stand.in_of_reduce.0_", strings.Repeat("_", api.MaxName)}
	taken := parse("unit")
	for range 6 {
		name := reduce.UnusedName(taken)
		taken = node(api.TApp, taken, constant(name, 0))
		names = append(names, name)
	}
	return names
}

// namedTable is a table with definitions of some names, which have one level each, and families whose Args name the first two of them, and then all of them at once.
func namedTable(names []string) api.Table {
	var tab api.Table
	all := parse("unit")
	for _, name := range names {
		tab.Decls = append(tab.Decls, leveled(define(name, "(type 1)", "unit"), 1))
		all = api.Term{Op: api.TSigma, L: []api.Term{constant(name, 0), all}}
	}
	x, y := names[0], names[len(names)-1]
	text := func(s string) string { return strings.NewReplacer("FIRST", "@"+x, "LAST", "@"+y).Replace(s) }
	plain := family("Plain", "unit", text("FIRST{0}"), text("(sig 0 FIRST{0} (eq 0 LAST{1} #1 #1))"), "unit")
	plain.Cons[2].Arg = all
	nested := family("Nested", "unit", text("(sig 0 FIRST{0} (data @Nested star))"), text("(pi 0 LAST{2} (data @Nested FIRST{3}))"), text("(sig 0 (data @Nested #0) (pi 0 (eq 0 FIRST{1} #1 #1) (data @Nested LAST{0})))"), "unit")
	nested.Cons[3].Arg = api.Term{Op: api.TSigma, L: []api.Term{parse("(data @Nested #0)"), all}}
	tab.Decls = append(tab.Decls, plain, nested)
	return tab
}

// TestNamesOfATable compares with steps that are done one by one: steps of all families take no name for anything but what the table declares.
func TestNamesOfATable(t *testing.T) {
	all := manyNames()
	count := map[int]int{}
	for i := range all {
		names := slices.Concat(all[i:], all[:i])
		n := naive{namedTable(names)}
		if at, e := table.Check(n.tab); at >= 0 {
			t.Fatalf("the table for %s: %d, %v", names[0], at, e)
		}
		for _, s := range namedTerms(names) {
			want, ok := n.step(s)
			count[want.rule]++
			sameStep(t, n.tab, s, want, ok)
			sameHeads(t, n, s, 5, map[int]int{})
		}
	}
	for _, rule := range []int{api.RCase, api.REqCon, api.RCast} {
		if count[rule] < 100 {
			t.Errorf("the rule %d is used %d times only", rule, count[rule])
		}
	}
}

// namedTerms are terms about all constructors of the families, in which the names stand where stand-ins could.
func namedTerms(names []string) []api.Term {
	var list []api.Term
	for _, f := range []struct {
		name string
		cons int
	}{{"Plain", 3}, {"Nested", 4}} {
		for k := range f.cons {
			for level := range api.MaxCases + 4 {
				name := "@" + names[level%len(names)] + "{" + strconv.Itoa(level) + "}"
				con := "(con @" + f.name + " " + strconv.Itoa(k) + " " + name + " #1)"
				data := "(data @" + f.name + " " + name + ")"
				methods := strings.Repeat(" (app 0 #0 (app 0 "+name+" #4))", f.cons)
				list = append(list,
					parse("(eq 0 "+data+" "+con+" "+con+")"),
					parse("(cast 0 "+data+" (data @"+f.name+" #2) "+name+" "+con+")"),
					parse("(elim @"+f.name+" 0 "+name+methods+" star "+con+")"),
					parse("(elim @"+f.name+" 1 (app 0 (app 0 "+name+" #0) #1)"+methods+" "+name+" "+con+")"),
				)
			}
		}
	}
	return list
}

// renamed returns a term in which declarations have other names.
func renamed(t api.Term, to map[string]string) api.Term {
	t = cloned(t)
	if name, ok := to[t.S]; ok {
		t.S = name
	}
	for i := range t.L {
		t.L[i] = renamed(t.L[i], to)
	}
	return t
}

func renamedTable(t api.Table, to map[string]string) api.Table {
	t = clonedTable(t)
	for i := range t.Decls {
		d := &t.Decls[i]
		d.Name = to[d.Name]
		d.Type, d.Body, d.Param = renamed(d.Type, to), renamed(d.Body, to), renamed(d.Param, to)
		for k := range d.Cons {
			d.Cons[k].Arg = renamed(d.Cons[k].Arg, to)
		}
	}
	return t
}

// TestOtherNames: where all declarations get other names, steps are the same but for the names.
func TestOtherNames(t *testing.T) {
	tab := with(basic(), leveled(family("Mixed", "(type 0)", "(sig 0 @id{u0} (sig 0 @two (data @Mixed{u0} @claimed)))", "(sig 0 (data @Mixed{u0} #0) @id{0})"), 1))
	r := newRandom(9)
	count := map[int]int{}
	for range 8000 {
		names := manyNames()
		r.Shuffle(len(names), func(i, j int) { names[i], names[j] = names[j], names[i] })
		to := map[string]string{}
		for i, d := range tab.Decls {
			to[d.Name] = names[i]
		}
		s := r.term(2 + r.Intn(3))
		if r.Intn(2) == 0 {
			s = parse(r.mixed())
		}
		y, rule, ok := reduce.Step(tab, s)
		z, other, is := reduce.Step(renamedTable(tab, to), renamed(s, to))
		if ok != is || rule != other || !equal(z, renamed(y, to)) {
			t.Fatalf("%s steps by %d to %s, but with other names, %s, by %d to %s", text(s), rule, text(y), text(renamed(s, to)), other, text(z))
		}
		count[rule]++
	}
	for _, rule := range []int{api.RUnfold, api.RCase, api.REqCon, api.RCast} {
		if count[rule] < 50 {
			t.Errorf("the rule %d is used %d times only", rule, count[rule])
		}
	}
}

// mixed is the text of a term about the family Mixed.
func (r random) mixed() string {
	con := func() string {
		return "(con @Mixed{1} " + r.pick("0", "1") + " " + r.any(2) + " " + r.any(2) + ")"
	}
	data := func() string { return "(data @Mixed{1} " + r.any(2) + ")" }
	switch r.Intn(3) {
	case 0:
		return "(eq 0 " + data() + " " + con() + " " + con() + ")"
	case 1:
		return "(cast 0 " + data() + " " + data() + " " + r.any(1) + " " + con() + ")"
	}
	return "(elim @Mixed{1} " + r.pick("0", "1") + " " + r.any(2) + " " + r.any(2) + " " + r.any(2) + " star " + con() + ")"
}
