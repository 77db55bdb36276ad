package level_test

import (
	"testing"

	"tenet/api"
	"tenet/level"
)

// TestReadmeExample runs what README.md shows.
func TestReadmeExample(t *testing.T) {
	a, _ := level.Parse("max(u0+1,u1)")
	b, _ := level.Suc(a)
	c, _ := level.Subst(a, []api.Level{{Const: 3}})
	if s, _ := level.Format(b); s != "max(u0+2,u1+1)" || !level.Leq(a, b) {
		t.Errorf("Suc is %q", s)
	}
	if s, _ := level.Format(c); s != "max(u1,4)" {
		t.Errorf("Subst is %q", s)
	}
	if n, e := level.Eval(a, []int{5, 9}); n != 9 || e != api.OK {
		t.Errorf("Eval is %d, %v", n, e)
	}
}

// TestChapterExamples runs the examples of the chapter.
func TestChapterExamples(t *testing.T) {
	for _, x := range []struct {
		a    api.Level
		want string
	}{{lv(2, 0, 2), "u0+2"}, {lv(3, 0, 2), "max(u0+2,3)"}} {
		if s, e := level.Format(x.a); s != x.want || e != api.OK {
			t.Errorf("Format(%+v) = %q, %v", x.a, s, e)
		}
	}
	if !level.Leq(lv(0, 0, 0), lv(0, 1, 0, 0, 1)) || level.Leq(lv(1, 0, 0), lv(0, 0, 0)) || !level.Leq(lv(1, 0, 0), lv(0, 0, 1)) {
		t.Error("the order of example 2")
	}
	got, e := level.Subst(lv(0, 0, 1), []api.Level{lv(3, 1, 0)})
	if s, _ := level.Format(got); s != "max(u1+1,4)" || e != api.OK {
		t.Errorf("Subst = %q, %v", s, e)
	}
}
