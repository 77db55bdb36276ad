package term_test

import (
	"testing"

	"tenet/api"
	"tenet/term"
)

// TestReadmeExample runs what README.md shows.
func TestReadmeExample(t *testing.T) {
	f := tm(t, "(lam 0 unit (pair 0 unit unit #0 #1))")
	g := term.Fill(f, []api.Term{tm(t, "(fst #4)")})
	isText(t, "Fill", g, "(lam 0 unit (pair 0 unit unit #0 (fst #5)))")
	p, bound, e := term.At(g, []int{1, 3})
	isText(t, "At", p, "(fst #5)")
	if term.Free(f) != 1 || bound != 1 || e != api.OK {
		t.Errorf("Free is %d, At is %d, %v", term.Free(f), bound, e)
	}
	h, e := term.Put(g, []int{1, 3}, api.Term{Op: api.TStar})
	isText(t, "Put", h, "(lam 0 unit (pair 0 unit unit #0 star))")
	if e != api.OK || term.Same(g, h) || !term.Alike(tm(t, "(app 1 @f (fst #0))"), tm(t, "(app 1 @f trivial)")) {
		t.Error("Same and Alike")
	}
	z, e := term.SetLevels(tm(t, "(type u0)"), []api.Level{{Const: 3}})
	isText(t, "SetLevels", z, "(type 3)")
	if e != api.OK {
		t.Errorf("SetLevels: %v", e)
	}
}

// TestChapterExamples runs the examples of the chapter.
func TestChapterExamples(t *testing.T) {
	identity := tm(t, "(lam 0 unit #0)")
	isText(t, "an application", api.Term{Op: api.TApp, L: []api.Term{identity, {Op: api.TStar}}}, "(app 0 (lam 0 unit #0) star)")
	isText(t, "Fill of a body", term.Fill(identity.L[1], list(t, "star")), "star")
	isText(t, "Fill", term.Fill(tm(t, "(pi 0 #0 #2)"), list(t, "#5")), "(pi 0 #5 #1)")
	up, ok := term.Shift(tm(t, "(lam 0 #0 (app 0 #0 #1))"), 1, 0)
	isText(t, "Shift", up, "(lam 0 #1 (app 0 #0 #2))")
	if !ok {
		t.Error("Shift is false")
	}
}
