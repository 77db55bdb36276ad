package conv_test

import (
	"slices"
	"strings"
	"testing"

	"tenet/api"
	"tenet/conv"
	"tenet/term"
)

// names has the texts that stand for terms of the tests.
var names = strings.NewReplacer(
	"NAT", "(data @Nat star)", "BOOL", "(data @Bool star)",
	"ZERO", "(con @Nat 0 star star)", "ONE", "(con @Nat 1 star (con @Nat 0 star star))",
	"YES", "(con @Bool 0 star star)", "NO", "(con @Bool 1 star star)",
	"QUO", "(quo 0 NAT (eq 0 NAT #1 #0) trivial trivial trivial)",
	"MOD", "(quo 0 (data @Nat star) (eq 0 BOOL (app 0 @even #1) (app 0 @even #0)) trivial trivial trivial)",
)

// parse reads a term of a test. It panics where there is none, so that terms may be made outside of tests.
func parse(s string) api.Term {
	s = names.Replace(names.Replace(s))
	t, e := term.Parse(s)
	if e != api.OK {
		panic("no term: " + s)
	}
	return t
}

// text writes a term, also one that has no text.
func text(t api.Term) string {
	s, e := term.Format(t)
	if e != api.OK {
		return "a term without a text"
	}
	return s
}

// context reads a context; types of proofs begin with a mark of exclamation.
func context(types ...string) []api.Bind {
	var out []api.Bind
	for _, s := range types {
		s, proof := strings.CutPrefix(s, "!")
		out = append(out, api.Bind{Type: parse(s), Proof: proof})
	}
	return out
}

// num is the text of a number.
func num(n int) string {
	return strings.Repeat("(con @Nat 1 star ", n) + "ZERO" + strings.Repeat(")", n)
}

// succ returns the successor of a term, n times.
func succ(n int, t api.Term) api.Term {
	for range n {
		t = api.Term{Op: api.TCon, S: "Nat", N: 1, L: []api.Term{node(api.TStar), t}}
	}
	return t
}

func variable(n int) api.Term { return api.Term{Op: api.TVar, N: n} }

func node(op int, parts ...api.Term) api.Term {
	return api.Term{Op: op, L: parts}
}

func marked(op, mark int, parts ...api.Term) api.Term {
	return api.Term{Op: op, N: mark, L: parts}
}

// nest returns a node with an Op, n times around a term; first is the part before it.
func nest(op, n int, first, last api.Term) api.Term {
	for range n {
		last = node(op, first, last)
	}
	return last
}

// up returns a term under some binders more.
func up(t api.Term, by int) api.Term {
	out, _ := term.Shift(t, by, 0)
	return out
}

// lv returns a level with the Const c and, for each two numbers, a variable and its Plus.
func lv(c int, vars ...int) api.Level {
	a := api.Level{Const: c}
	for i := 0; i+1 < len(vars); i += 2 {
		a.Vars = append(a.Vars, api.LVar{V: vars[i], Plus: vars[i+1]})
	}
	return a
}

// u is the level variable v.
func u(v int) api.Level { return lv(0, v, 0) }

func define(name, typ, body string) api.Decl {
	return api.Decl{Name: name, Kind: api.KDef, Type: parse(typ), Body: parse(body)}
}

func assume(name, typ string) api.Decl {
	return api.Decl{Name: name, Kind: api.KAssume, Type: parse(typ)}
}

// family returns a family whose constructors are called a, b and so on.
func family(name, param string, args ...string) api.Decl {
	d := api.Decl{Name: name, Kind: api.KData, Param: parse(param)}
	for i, arg := range args {
		d.Cons = append(d.Cons, api.Con{Name: string(rune('a' + i)), Arg: parse(arg)})
	}
	return d
}

func tableOf(d ...api.Decl) api.Table {
	return api.Table{Decls: d}
}

// with returns a table with some declarations more.
func with(t api.Table, d ...api.Decl) api.Table {
	return api.Table{Decls: slices.Concat(t.Decls, d)}
}

// leveled gives level parameters to a declaration.
func leveled(d api.Decl, levels int) api.Decl {
	d.Levels = levels
	return d
}

const plus = "(lam 0 NAT (lam 0 NAT (elim @Nat 0 NAT #3 (con @Nat 1 star #0) star #1)))"

// basic is a well formed table with declarations of each Kind, and families of many shapes.
func basic() api.Table {
	box := leveled(family("Box", "(type u0)", "#0"), 1)
	box.Over, box.Sort = lv(0, 0, 1), u(0)
	list := family("List", "(type 0)", "unit", "(sig 0 #0 (data @List #1))")
	list.Over = lv(1)
	hidden := define("hidden", "NAT", "ONE")
	hidden.Kind = api.KOpaque
	return tableOf(
		family("Nat", "unit", "unit", "NAT"),
		family("Bool", "unit", "unit", "unit"),
		define("plus", "(pi 0 NAT (pi 0 NAT NAT))", plus),
		define("times", "(pi 0 NAT (pi 0 NAT NAT))", "(lam 0 NAT (lam 0 NAT (elim @Nat 0 NAT ZERO (app 0 (app 0 @plus #3) #0) star #1)))"),
		hidden,
		assume("claimed", "NAT"),
		box,
		leveled(define("id", "(pi 0 (type u0) (pi 0 #0 #1))", "(lam 0 (type u0) (lam 0 #0 #0))"), 1),
		family("Vec", "NAT", "(sig 2 unit (eq 0 NAT #1 ZERO))", "(sig 0 NAT (sig 0 NAT (sig 2 (data @Vec #1) (eq 0 NAT #3 (con @Nat 1 star #2)))))"),
		family("Tree", "unit", "unit", "(sig 0 NAT (pi 0 NAT (data @Tree star)))"),
		list,
		family("None", "unit"),
		define("two", "NAT", "(app 0 (app 0 @plus ONE) ONE)"),
		define("even", "(pi 0 NAT BOOL)", "(lam 0 NAT (elim @Nat 0 BOOL YES (elim @Bool 0 BOOL NO YES star #0) star #0))"),
		define("Fun", "(type 0)", "(pi 0 NAT NAT)"),
		assume("other", "(pi 0 NAT NAT)"),
		leveled(assume("any", "(type u0)"), 1),
	)
}

// size returns how many nodes a term has.
func size(t api.Term) int {
	n, _ := term.Size(t)
	return n
}

// question is a comparison, and its answer.
type question struct {
	typ, a, b string
	want      bool
}

// asked checks answers to comparisons of elements, and of types if there is no type; both ways round.
func asked(t *testing.T, tab api.Table, ctx []api.Bind, list []question) {
	t.Helper()
	for _, q := range list {
		a, b := parse(q.a), parse(q.b)
		for range 2 {
			var is bool
			var e api.Errno
			if q.typ == "" {
				is, e = conv.Types(tab, ctx, a, b, 2000)
			} else {
				is, e = conv.Elements(tab, ctx, parse(q.typ), a, b, 2000)
			}
			if e != api.OK || is != q.want {
				t.Errorf("%s and %s of %q: %v, %v, want %v", text(a), text(b), q.typ, is, e, q.want)
			}
			a, b = b, a
		}
	}
}
