package reduce_test

import (
	"math/rand"
	"slices"
	"strconv"
	"strings"
	"testing"

	"tenet/api"
	"tenet/table"
	"tenet/term"
)

// names has the texts that stand for terms of the tests.
var names = strings.NewReplacer("NAT", "(data @Nat star)", "BOOL", "(data @Bool star)", "ZERO", "(con @Nat 0 star star)", "ONE", "(con @Nat 1 star (con @Nat 0 star star))", "YES", "(con @Bool 0 star star)", "NO", "(con @Bool 1 star star)")

// parse reads a term of a test. It panics where there is none, so that terms may be made outside of tests.
func parse(s string) api.Term {
	t, e := term.Parse(names.Replace(s))
	if e != api.OK {
		panic("no term: " + s)
	}
	return t
}

// text writes a term, also one that has no text.
func text(t api.Term) string {
	s, e := term.Format(t)
	if e != api.OK {
		return "a term without a text"
	}
	return s
}

// num is the text of a number.
func num(n int) string {
	return strings.Repeat("(con @Nat 1 star ", n) + "ZERO" + strings.Repeat(")", n)
}

// number is the term of a number, which may be larger than texts are.
func number(n int) api.Term {
	t := parse("ZERO")
	for range n {
		t = api.Term{Op: api.TCon, S: "Nat", N: 1, L: []api.Term{parse("star"), t}}
	}
	return t
}

func variable(n int) api.Term { return api.Term{Op: api.TVar, N: n} }

func node(op int, parts ...api.Term) api.Term {
	return api.Term{Op: op, L: parts}
}

// lv returns a level with the Const c and, for each two numbers, a variable and its Plus.
func lv(c int, vars ...int) api.Level {
	a := api.Level{Const: c}
	for i := 0; i+1 < len(vars); i += 2 {
		a.Vars = append(a.Vars, api.LVar{V: vars[i], Plus: vars[i+1]})
	}
	return a
}

// u is the level variable v.
func u(v int) api.Level { return lv(0, v, 0) }

func define(name, typ, body string) api.Decl {
	return api.Decl{Name: name, Kind: api.KDef, Type: parse(typ), Body: parse(body)}
}

// family returns a family whose constructors are called a, b and so on.
func family(name, param string, args ...string) api.Decl {
	d := api.Decl{Name: name, Kind: api.KData, Param: parse(param)}
	for i, arg := range args {
		d.Cons = append(d.Cons, api.Con{Name: string(rune('a' + i)), Arg: parse(arg)})
	}
	return d
}

func tableOf(d ...api.Decl) api.Table {
	return api.Table{Decls: d}
}

// with returns a table with some declarations more.
func with(t api.Table, d ...api.Decl) api.Table {
	return api.Table{Decls: slices.Concat(t.Decls, d)}
}

// leveled gives level parameters to a declaration.
func leveled(d api.Decl, levels int) api.Decl {
	d.Levels = levels
	return d
}

const plus = "(lam 0 NAT (lam 0 NAT (elim @Nat 0 NAT #3 (con @Nat 1 star #0) star #1)))"

// basic is a well formed table with declarations of each Kind, and families of many shapes.
func basic() api.Table {
	box := leveled(family("Box", "(type u0)", "#0"), 1)
	box.Over, box.Sort = lv(0, 0, 1), u(0)
	list := family("List", "(type 0)", "unit", "(sig 0 #0 (data @List #1))")
	list.Over = lv(1)
	hidden := define("hidden", "NAT", "ONE")
	hidden.Kind = api.KOpaque
	claimed := api.Decl{Name: "claimed", Kind: api.KAssume, Type: parse("NAT")}
	return tableOf(
		family("Nat", "unit", "unit", "NAT"),
		family("Bool", "unit", "unit", "unit"),
		define("plus", "(pi 0 NAT (pi 0 NAT NAT))", plus),
		define("times", "(pi 0 NAT (pi 0 NAT NAT))", "(lam 0 NAT (lam 0 NAT (elim @Nat 0 NAT ZERO (app 0 (app 0 @plus #3) #0) star #1)))"),
		hidden,
		claimed,
		box,
		leveled(define("id", "(pi 0 (type u0) (pi 0 #0 #1))", "(lam 0 (type u0) (lam 0 #0 #0))"), 1),
		family("Vec", "NAT", "(sig 2 unit (eq 0 NAT #1 ZERO))", "(sig 0 NAT (sig 0 NAT (sig 2 (data @Vec #1) (eq 0 NAT #3 (con @Nat 1 star #2)))))"),
		family("Tree", "unit", "unit", "(sig 0 NAT (pi 0 NAT (data @Tree star)))"),
		list,
		family("None", "unit"),
		define("two", "NAT", "(app 0 (app 0 @plus ONE) ONE)"),
	)
}

// cloned returns a term of new memory.
func cloned(t api.Term) api.Term {
	t.U, t.L = slices.Clone(t.U), slices.Clone(t.L)
	for i := range t.U {
		t.U[i].Vars = slices.Clone(t.U[i].Vars)
	}
	for i := range t.L {
		t.L[i] = cloned(t.L[i])
	}
	return t
}

// clonedTable returns a table of new memory.
func clonedTable(t api.Table) api.Table {
	t.Decls = slices.Clone(t.Decls)
	for i := range t.Decls {
		d := &t.Decls[i]
		d.Type, d.Body, d.Param, d.Cons = cloned(d.Type), cloned(d.Body), cloned(d.Param), slices.Clone(d.Cons)
		for k := range d.Cons {
			d.Cons[k].Arg = cloned(d.Cons[k].Arg)
		}
	}
	return t
}

// equal compares terms as they are written; nil and empty lists are the same.
func equal(a, b api.Term) bool {
	sameLevel := func(x, y api.Level) bool { return x.Const == y.Const && slices.Equal(x.Vars, y.Vars) }
	return a.Op == b.Op && a.N == b.N && a.S == b.S && slices.EqualFunc(a.U, b.U, sameLevel) && slices.EqualFunc(a.L, b.L, equal)
}

func isZero(t api.Term) bool {
	return equal(t, api.Term{})
}

// memory adds the addresses of all lists in a term to a set, and reports whether one of them was there.
func memory(t api.Term, seen map[any]bool) bool {
	shared := false
	add := func(p any) {
		shared = shared || seen[p]
		seen[p] = true
	}
	for i := range t.U {
		if i == 0 {
			add(&t.U[0])
		}
		if len(t.U[i].Vars) > 0 {
			add(&t.U[i].Vars[0])
		}
	}
	for i := range t.L {
		if i == 0 {
			add(&t.L[0])
		}
		if memory(t.L[i], seen) {
			shared = true
		}
	}
	return shared
}

// isNew checks that a result shares memory neither with a table and a term nor within itself.
func isNew(t *testing.T, call string, got api.Term, tab api.Table, s api.Term) {
	t.Helper()
	seen := map[any]bool{}
	memory(s, seen)
	for _, d := range tab.Decls {
		for _, x := range []api.Term{d.Type, d.Body, d.Param} {
			memory(x, seen)
		}
		for _, c := range d.Cons {
			memory(c.Arg, seen)
		}
	}
	if memory(got, seen) {
		t.Errorf("%s of %s shares memory: %s", call, text(s), text(got))
	}
}

// deep returns n projections of a term.
func deep(n int, t api.Term) api.Term {
	for range n {
		t = node(api.TFst, t)
	}
	return t
}

// wide returns a term with n nodes, for odd n, without great depth.
func wide(n int) api.Term {
	if n == 1 {
		return node(api.TStar)
	}
	left := n / 4 * 2
	if left%2 == 0 {
		left++
	}
	return node(api.TApp, wide(left), wide(n-1-left))
}

// sized returns a term with n nodes.
func sized(n int) api.Term {
	if n%2 == 0 {
		return node(api.TFst, wide(n-1))
	}
	return wide(n)
}

// random makes terms that have many head steps.
type random struct {
	*rand.Rand
	free int // variables are below this number
}

func newRandom(seed int64) random {
	return random{rand.New(rand.NewSource(seed)), 4}
}

func (r random) pick(texts ...string) string {
	return texts[r.Intn(len(texts))]
}

// level is the text of a level.
func (r random) level() string {
	return r.pick("0", "0", "0", "1", "u0", "u0+1", "u1", "max(u0,u1)", "2", "1000")
}

func (r random) mark() string {
	return r.pick("0", "1", "2", "3")
}

// small is a text without parts.
func (r random) small() string {
	return r.pick("#0", "#1", "#2", "#3", "star", "unit", "@claimed", "@two", "@hidden", "YES", "ZERO", "prop", "trivial", "true", "(type 0)", "@lost", "@id{0}", "@id", "@plus{1}")
}

// name is the text of a family with levels.
func (r random) name() string {
	return r.pick("@Nat", "@Nat", "@Bool", "@Vec", "@Tree", "@List", "@None", "@Box{0}", "@Box{u0}", "@Box{u1+1}", "@Box", "@Nat{0}", "@Lost", "@plus")
}

// typ is the text of a type mostly.
func (r random) typ(n int) string {
	if n <= 0 {
		return r.pick("unit", "prop", "NAT", "BOOL", "(type 0)", "(type u0)", "(type u0+1)", "true", "false", "#0", "#2", "(data @Lost star)", "(data @Box unit)")
	}
	switch r.Intn(11) {
	case 0, 1:
		return "(pi " + r.mark() + " " + r.typ(n-1) + " " + r.typ(n-1) + ")"
	case 2, 3, 4:
		return "(sig " + r.mark() + " " + r.typ(n-1) + " " + r.typ(n-1) + ")"
	case 5, 6:
		return "(quo " + r.level() + " " + r.typ(n-1) + " " + r.any(n-1) + " star star star)"
	case 7, 8:
		return "(data " + r.name() + " " + r.any(n-1) + ")"
	case 9:
		return r.any(n - 1)
	}
	return r.typ(0)
}

// any is the text of a term that is no type mostly.
func (r random) any(n int) string {
	if n <= 0 || r.Intn(5) == 0 {
		return r.small()
	}
	switch r.Intn(12) {
	case 0:
		return "(lam " + r.pick("0", "1") + " " + r.typ(n-1) + " " + r.any(n-1) + ")"
	case 1:
		return "(pair " + r.mark() + " " + r.typ(n-1) + " " + r.typ(n-1) + " " + r.any(n-1) + " " + r.any(n-1) + ")"
	case 2, 3:
		return "(con " + r.name() + " " + r.pick("0", "0", "1", "1", "2") + " " + r.any(n-2) + " " + r.any(n-1) + ")"
	case 4:
		return "(class " + r.any(n-2) + " " + r.any(n-1) + ")"
	case 5:
		return r.typ(n - 1)
	case 6:
		return r.small()
	}
	return r.active(n)
}

// families are the families of basic, with levels, with how many constructors they have.
var families = []struct {
	name string
	cons int
}{{"@Nat", 2}, {"@Nat", 2}, {"@Bool", 2}, {"@Vec", 2}, {"@Tree", 2}, {"@List", 2}, {"@None", 1}, {"@Box{u0}", 1}, {"@Box{1}", 1}, {"@Box{u0+1}", 1}}

// data is the text of a term about a family, as it is declared.
func (r random) data(n int) string {
	f := families[r.Intn(len(families))]
	con := func() string {
		return "(con " + f.name + " " + strconv.Itoa(r.Intn(f.cons)) + " " + r.any(n-2) + " " + r.any(n-1) + ")"
	}
	a, b := con(), con()
	switch r.Intn(6) {
	case 0:
		a = r.any(n - 1)
	case 1:
		b = r.active(n - 1)
	}
	data, other := "(data "+f.name+" "+r.any(n-2)+")", "(data "+f.name+" "+r.any(n-2)+")"
	switch r.Intn(4) {
	case 0:
		return "(eq " + r.level() + " " + data + " " + a + " " + b + ")"
	case 1:
		return "(cast " + r.level() + " " + data + " " + other + " #1 " + a + ")"
	case 2:
		return "(eq " + r.level() + " (type " + r.level() + ") " + data + " " + other + ")"
	}
	methods := ""
	for range f.cons {
		methods += " " + r.any(n-1)
	}
	return "(elim " + f.name + " " + r.pick("0", "1") + " " + r.any(n-1) + methods + " " + r.any(n-2) + " " + a + ")"
}

// classes is the text of an equation of classes, or of propositions.
func (r random) classes(n int) string {
	class := func() string { return "(class " + r.any(n-2) + " " + r.any(n-1) + ")" }
	switch r.Intn(5) {
	case 0:
		return "(eq 0 prop " + r.any(n-1) + " " + r.any(n-1) + ")"
	case 1:
		return "(eq 0 (quo 0 unit " + r.any(n-1) + " star star star) " + r.active(n-1) + " " + r.active(n-1) + ")"
	}
	return "(eq 0 (quo 0 unit " + r.any(n-1) + " star star star) " + class() + " " + class() + ")"
}

// active is the text of a term that has a step mostly.
func (r random) active(n int) string {
	switch r.Intn(14) {
	case 10, 11:
		return r.data(n)
	case 12:
		return r.classes(n)
	case 0:
		return "(app " + r.pick("0", "1") + " " + r.any(n-1) + " " + r.any(n-1) + ")"
	case 1:
		return "(" + r.pick("fst", "snd") + " " + r.any(n-1) + ")"
	case 2:
		return "(out " + r.level() + " 0 star star " + r.any(n-1) + " star " + r.any(n-1) + ")"
	case 3, 4:
		return "(elim " + r.name() + " " + r.pick("0", "1") + " " + r.any(n-2) + strings.Repeat(" "+r.any(n-1), r.Intn(4)) + " star " + r.any(n-1) + ")"
	case 5, 6, 7:
		return r.equation(n)
	}
	from, to := r.typ(n-1), r.typ(n-1)
	if r.Intn(2) == 0 {
		to = from
	}
	return "(cast " + r.level() + " " + from + " " + to + " " + r.any(n-1) + " " + r.any(n-1) + ")"
}

// equation is the text of a TEq.
func (r random) equation(n int) string {
	a, b := r.any(n-1), r.any(n-1)
	if r.Intn(3) == 0 {
		b = a
	}
	if r.Intn(2) == 0 {
		return "(eq " + r.level() + " " + r.typ(n-1) + " " + a + " " + b + ")"
	}
	k, from, to := r.level(), r.typ(n-1), r.typ(n-1)
	if r.Intn(2) == 0 {
		to = from
	}
	return "(eq " + r.level() + " (type " + k + ") " + from + " " + to + ")"
}

// term returns a random term of at most some levels of choices.
func (r random) term(n int) api.Term {
	for {
		s := r.active(n)
		if len(s) < 4000 {
			return parse(s)
		}
	}
}

// size returns how many nodes a term has.
func size(t api.Term) int {
	n, _ := term.Size(t)
	return n
}

// knows reports whether a table has a family with as many levels.
func knows(tab api.Table, name string, levels int) bool {
	i := table.Find(tab, name)
	return i >= 0 && tab.Decls[i].Kind == api.KData && tab.Decls[i].Levels == levels
}
