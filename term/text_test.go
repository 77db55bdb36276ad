package term_test

import (
	"math/rand"
	"strings"
	"testing"

	"tenet/api"
	"tenet/term"
)

// P3.7

func TestFormat(t *testing.T) {
	star := node(api.TStar)
	u := []api.Level{lv(3, 1, 1, 2, 0)}
	for _, x := range []struct {
		t    api.Term
		want string
	}{
		{v(0), "#0"}, {v(2000), "#2000"}, {api.Term{Op: api.THole, N: 12}, "?12"}, {node(api.TProof), "proof"}, {node(api.TProp), "prop"}, {node(api.TUnit), "unit"}, {star, "star"}, {node(api.TTrue), "true"}, {node(api.TTrivial), "trivial"}, {node(api.TFalse), "false"},
		{api.Term{Op: api.TConst, S: "a.b_1"}, "@a.b_1"}, {api.Term{Op: api.TConst, S: "a", U: []api.Level{lv(0)}}, "@a{0}"}, {api.Term{Op: api.TConst, S: "a", U: []api.Level{lv(0, 1, 2), u[0], lv(7)}}, "@a{u1+2;max(u1+1,u2,3);7}"},
		{api.Term{Op: api.TType, U: u}, "(type max(u1+1,u2,3))"}, {api.Term{Op: api.TPi, N: 2, L: []api.Term{star, v(1)}}, "(pi 2 star #1)"}, {api.Term{Op: api.TLam, N: 1, L: []api.Term{star, v(1)}}, "(lam 1 star #1)"}, {node(api.TApp, v(0), v(1)), "(app 0 #0 #1)"},
		{api.Term{Op: api.TSigma, N: 3, L: []api.Term{star, v(1)}}, "(sig 3 star #1)"}, {api.Term{Op: api.TPair, N: 1, L: []api.Term{star, v(1), v(2), v(3)}}, "(pair 1 star #1 #2 #3)"}, {node(api.TFst, star), "(fst star)"}, {node(api.TSnd, star), "(snd star)"}, {node(api.TClass, star, v(1)), "(class star #1)"},
		{api.Term{Op: api.TAbsurd, N: 1, L: []api.Term{star, v(1)}}, "(absurd 1 star #1)"}, {api.Term{Op: api.TEq, U: u, L: []api.Term{star, v(1), v(2)}}, "(eq max(u1+1,u2,3) star #1 #2)"}, {api.Term{Op: api.TRefl, U: u, L: []api.Term{star, v(1)}}, "(refl max(u1+1,u2,3) star #1)"},
		{api.Term{Op: api.TSubst, U: u, L: []api.Term{star, v(1), v(2), v(3), v(4), v(5)}}, "(subst max(u1+1,u2,3) star #1 #2 #3 #4 #5)"}, {api.Term{Op: api.TCast, U: u, L: []api.Term{star, v(1), v(2), v(3)}}, "(cast max(u1+1,u2,3) star #1 #2 #3)"}, {api.Term{Op: api.TCoh, U: u, L: []api.Term{star, v(1), v(2)}}, "(coh max(u1+1,u2,3) star #1 #2)"},
		{api.Term{Op: api.TQuo, U: u, L: []api.Term{star, v(1), v(2), v(3), v(4)}}, "(quo max(u1+1,u2,3) star #1 #2 #3 #4)"}, {api.Term{Op: api.TOut, U: u, N: 1, L: []api.Term{star, v(1), v(2), v(3), v(4)}}, "(out max(u1+1,u2,3) 1 star #1 #2 #3 #4)"},
		{api.Term{Op: api.TData, S: "a", L: []api.Term{star}}, "(data @a star)"}, {api.Term{Op: api.TData, S: "a", U: u, L: []api.Term{star}}, "(data @a{max(u1+1,u2,3)} star)"}, {api.Term{Op: api.TCon, S: "a", U: u, N: 7, L: []api.Term{star, v(1)}}, "(con @a{max(u1+1,u2,3)} 7 star #1)"},
		{api.Term{Op: api.TElim, S: "a", N: 1, L: []api.Term{star, v(1), v(2)}}, "(elim @a 1 star #1 #2)"}, {api.Term{Op: api.TElim, S: "a", U: []api.Level{lv(0), lv(1)}, L: []api.Term{star, v(1), v(2), v(3)}}, "(elim @a{0;1} 0 star #1 #2 #3)"},
	} {
		isText(t, "Format", x.t, x.want)
		if got, e := term.Parse(x.want); !equal(got, x.t) || e != api.OK {
			t.Errorf("Parse(%q) = %+v, %v", x.want, got, e)
		}
	}
}

func TestFormatOfNoTerm(t *testing.T) {
	bad := api.Term{Op: api.TType, U: []api.Level{lv(1, 0, 1)}}
	for _, x := range []api.Term{{}, {Op: 31}, {Op: api.TType}, bad, v(-1), v(2001), node(api.TFst), deep(200, v(0)), wide(2001), deep(3, bad), deep(1<<16-1, v(0)), {Op: api.TConst, S: "a b"}, {Op: api.TUnit, S: "a"}} {
		if s, e := term.Format(x); s != "" || e != api.ErrForm {
			t.Errorf("Format: %q, %v", s, e)
		}
	}
}

// TestParseErrors reads texts each of which is near one of a term.
func TestParseErrors(t *testing.T) {
	for _, s := range []string{
		"", " ", "\n", "(", ")", "()", "( )", "(()", "((", "x", "Unit", "UNIT", "units", "unit ", " unit", "unit\n", "unit unit", "(unit)", "unit)", "(unit", "(proof)", "(prop)", "type", "fst", "data", "pi", "elim", "(var 0)", "(const a)", "(hole 0)",
		"#", "#-1", "#+1", "#01", "#00", "# 1", "#1 ", "#2001", "#99999999999999999999", "#18446744073709551616", "#0x1", "#1_0", "#u0", "##0", "(# 0)", "(#0)", "?", "?x", "?-0", "?01", "?2001", "(?0)", "#\u0661",
		"@", "@ a", "@1a", "@.a", "@a b", "@a-b", "@é", "@@a", "a", "(@a)", "@a{}", "@a{", "@a{u0", "@a{u0;", "@a{u0;}", "@a{;u0}", "@a{;}", "@a{0,1}", "@a{0 ;1}", "@a{0; 1}", "@a {0}", "@a{0}{1}", "@a{00}", "@a{1001}", "@a{max(u0)}", "@a{max(u0,1}", "@a{max(u0,1))}", "@a{0;1;2;3;4;5;6;7;8}", "@{0}", "@a{0})", "@" + strings.Repeat("a", 25),
		"(type)", "(type )", "(type  0)", "(type 0 )", "(type 00)", "(type 1001)", "(type u1200)", "(type max(0,u0))", "(type max(u0,0))", "(type max(u1,u0))", "(type max(u0,1)", "(type max(u0,1) )", "(type max(u0, 1))", "(type 0 0)", "(type 0 unit)", "(type #0)", "(type u0+0)", "(type {0})", "(type 0", "(type 0))",
		"(pi 4 unit unit)", "(pi -1 unit unit)", "(pi 00 unit unit)", "(pi unit unit)", "(pi 0 unit)", "(pi 0)", "(pi 0 unit unit unit)", "(pi  0 unit unit)", "(pi 0  unit unit)", "(pi 0 unit  unit)", "(pi 0 unit unit )", "(pi 0 unit unit) ", "(pi 0 unit unit", "( pi 0 unit unit)", "(pi\t0 unit unit)", "(pi 0 unit,unit)", "(pi 0(fst #0) unit)", "(pi 0 (fst #0)unit)", "(pi0 unit unit)", "(PI 0 unit unit)", "(lam 2 unit #0)", "(app 2 #0 #0)", "(pair 4 unit unit star star)", "(pair 0 unit unit star)", "(sigma 0 unit unit)",
		"(fst)", "(fst )", "(fst 0 #0)", "(fst #0 #0)", "(snd 0 #0)", "(class #0)", "(class 0 #0 #0)", "(absurd #0 #0)", "(absurd 2 #0 #0)", "(eq unit star star)", "(eq 0 0 unit star star)", "(eq u0 unit star)", "(eq 0 unit star star star)", "(refl unit star)", "(refl 0 unit)", "(subst 0 unit true star star trivial)", "(cast 0 unit unit star)", "(coh 0 unit star)", "(quo 0 unit true trivial trivial)", "(out 0 #0 true trivial trivial #1)", "(out 0 2 #0 true trivial trivial #1)", "(out 1 u0 #0 true trivial trivial #1)",
		"(data Nat star)", "(data @Nat)", "(data @Nat 0 star)", "(data @Nat{} star)", "(data @Nat {0} star)", "(data @Nat star star)", "(con @N 8 star star)", "(con @N star star)", "(con @N 0 star)", "(con 0 @N star star)", "(con @N 0 star star star)", "(elim @E 0 unit star)", "(elim @E 2 unit star star)", "(elim @E unit star star)", "(elim @E 0" + strings.Repeat(" #0", 12) + ")",
		"(app 0 (lam 0 unit #0) star))", "((app 0 #0 #0))", "(app 0 #0 ())", "(app 0 #0 )", "unit\x00", "\xffunit", "(fst unit\xff)", "[fst unit]",
	} {
		if x, e := term.Parse(s); e != api.ErrText || !isZero(x) {
			t.Errorf("Parse(%q) = %+v, %v", s, x, e)
		}
	}
}

// TestParseOfLargeTexts reads texts at and beyond the limits, and texts without an end.
func TestParseOfLargeTexts(t *testing.T) {
	nest := func(n int) string { return strings.Repeat("(fst ", n) + "#0" + strings.Repeat(")", n) }
	whole, _ := term.Format(wide(1999))
	for _, s := range []string{nest(199), whole, "(fst " + whole + ")", "(elim @E 0" + strings.Repeat(" #0", 11) + ")", "@a{0;1;2;3;4;5;6;7}", "@" + strings.Repeat("a", 24)} {
		x, e := term.Parse(s)
		if e != api.OK {
			t.Errorf("Parse of %d bytes: %v", len(s), e)
		}
		isText(t, "Parse", x, s)
	}
	over, _ := term.Format(wide(1001))
	const many = 1000000
	for _, s := range []string{
		nest(200), nest(1 << 16), "(app 0 " + whole + " #0)", "(app 0 " + over + " " + over + ")", strings.Repeat("(", many), strings.Repeat("(fst ", many), strings.Repeat("#", many), strings.Repeat("9", many), strings.Repeat("a", many), strings.Repeat(" ", many), strings.Repeat(")", many),
		"#" + strings.Repeat("9", many), "#" + strings.Repeat("0", many), "@" + strings.Repeat("a", many), "@a{" + strings.Repeat("0;", many) + "0}", "@a{" + strings.Repeat("max(", many), "(type " + strings.Repeat("u", many) + ")", "(type max(" + strings.Repeat("u0,", many), "(fst" + strings.Repeat(" ", many), "(fst" + strings.Repeat(" #0", many) + ")", strings.Repeat("(data @a ", many), strings.Repeat("unit", many),
	} {
		if x, e := term.Parse(s); e != api.ErrText || !isZero(x) {
			t.Errorf("Parse of %d bytes from %q: %v", len(s), s[:20], e)
		}
	}
}

// P3.9

func TestParseOfFormat(t *testing.T) {
	someTerms(4000, goodTerm, func(_ *rand.Rand, x api.Term) {
		s, e := term.Format(x)
		back, f := term.Parse(s)
		if e != api.OK || f != api.OK || !equal(back, x) {
			t.Errorf("Format(%+v) = %q, %v; Parse: %+v, %v", x, s, e, back, f)
		}
	})
	for _, k := range kinds {
		isText(t, "Parse", tm(t, k.text), k.text)
	}
}

// TestFormatOfParse changes texts a little in many ways: what is read still has the text that was read.
func TestFormatOfParse(t *testing.T) {
	texts := []string{"(type max(u0+2,u10,3))", "@a.b{0;u1+2;max(u0,3)}", "(app 0 (lam 1 unit #0) ?12)", "(out u0 1 #0 true trivial trivial #1)", "(elim @N{0} 0 unit star #0 star #3)", "(con @V{u0} 7 #1 #0)"}
	pieces := []string{"", " ", "(", ")", "{", "}", ";", ",", "@", "#", "?", "u", "a", ".", "_", "+", "-", "0", "1", "9", "max(", "fst", "unit", " #0", "(fst ", "\n", "\x00"}
	read := 0
	for _, s := range texts {
		for i := range len(s) + 1 {
			for j := i; j <= min(i+2, len(s)); j++ {
				for _, p := range pieces {
					if readAndWritten(t, s[:i]+p+s[j:]) {
						read++
					}
				}
			}
		}
	}
	if read < 300 {
		t.Errorf("only %d texts are read", read)
	}
}

func readAndWritten(t *testing.T, s string) bool {
	t.Helper()
	x, e := term.Parse(s)
	if e != api.OK {
		if e != api.ErrText || !isZero(x) {
			t.Errorf("Parse(%q) = %+v, %v", s, x, e)
		}
		return false
	}
	if back, f := term.Format(x); f != api.OK || back != s || !term.Valid(x) {
		t.Errorf("Parse(%q) = %+v, which is written as %q", s, x, back)
	}
	return true
}
