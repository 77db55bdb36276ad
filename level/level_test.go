package level_test

import (
	"slices"
	"testing"

	"tenet/api"
	"tenet/level"
)

// P1.1

func TestValid(t *testing.T) {
	for _, a := range []api.Level{{}, lv(1000), lv(0, 0, 0), lv(0, 1199, 1000), lv(1000, 1199, 1000), lv(3, 5, 0, 1, 7), row(0, 8, 1000), row(1192, 8, 0)} {
		if !level.Valid(a) {
			t.Errorf("%+v is not valid", a)
		}
	}
	for _, a := range invalid() {
		if level.Valid(a) {
			t.Errorf("%+v is valid", a)
		}
	}
}

func TestNormal(t *testing.T) {
	for _, x := range []struct{ a, want api.Level }{
		{lv(0), lv(0)}, {lv(7), lv(7)}, {lv(1000), lv(1000)},
		{lv(2, 0, 2), lv(0, 0, 2)}, {lv(1, 0, 2), lv(0, 0, 2)}, {lv(3, 0, 2), lv(3, 0, 2)},
		{lv(0, 5, 0, 1, 3), lv(0, 1, 3, 5, 0)}, {lv(3, 5, 0, 1, 3), lv(0, 1, 3, 5, 0)}, {lv(4, 5, 0, 1, 3), lv(4, 1, 3, 5, 0)},
		{lv(1, 9, 0, 2, 0), lv(1, 2, 0, 9, 0)}, {lv(1000, 0, 1000), lv(0, 0, 1000)}, {lv(1000, 1199, 999), lv(1000, 1199, 999)},
		{lv(0, 7, 7, 6, 6, 5, 5, 4, 4, 3, 3, 2, 2, 1, 1, 0, 0), lv(0, 0, 0, 1, 1, 2, 2, 3, 3, 4, 4, 5, 5, 6, 6, 7, 7)},
	} {
		got, e := level.Normal(x.a)
		want(t, "Normal", got, e, x.want, api.OK)
	}
	for _, a := range invalid() {
		got, e := level.Normal(a)
		want(t, "Normal", got, e, api.Level{}, api.ErrForm)
	}
}

func TestNormalIsCanonicalAndKeepsTheValue(t *testing.T) {
	for _, a := range small() {
		got, e := level.Normal(a)
		if e != api.OK || !canonical(got) {
			t.Errorf("Normal(%+v) = %+v, %v", a, got, e)
		}
		again, e := level.Normal(got)
		want(t, "Normal of Normal", again, e, got, api.OK)
		for _, vals := range assignments(3, 0, 1, 2, 1001) {
			if valueOf(got, vals) != valueOf(a, vals) {
				t.Errorf("Normal(%+v) = %+v has another value for %v", a, got, vals)
			}
		}
	}
}

// P1.2

func TestSuc(t *testing.T) {
	for _, x := range []struct{ a, want api.Level }{
		{lv(0), lv(1)}, {lv(999), lv(1000)}, {lv(0, 0, 0), lv(0, 0, 1)}, {lv(4, 0, 0), lv(5, 0, 1)},
		{lv(2, 0, 2), lv(0, 0, 3)}, {lv(0, 4, 1, 2, 9), lv(0, 2, 10, 4, 2)}, {lv(999, 0, 999), lv(0, 0, 1000)},
	} {
		got, e := level.Suc(x.a)
		want(t, "Suc", got, e, x.want, api.OK)
	}
	for _, a := range []api.Level{lv(1000), lv(0, 3, 1000), lv(1000, 3, 0), lv(1000, 3, 1000), lv(0, 1, 0, 0, 1000)} {
		got, e := level.Suc(a)
		want(t, "Suc", got, e, api.Level{}, api.ErrLimit)
	}
	for _, a := range invalid() {
		got, e := level.Suc(a)
		want(t, "Suc", got, e, api.Level{}, api.ErrForm)
	}
}

func TestMax(t *testing.T) {
	for _, x := range []struct{ a, b, want api.Level }{
		{lv(0), lv(0), lv(0)}, {lv(3), lv(5), lv(5)}, {lv(0, 1, 0), lv(2, 0, 1), lv(2, 0, 1, 1, 0)},
		{lv(0, 1, 4), lv(2, 1, 1), lv(0, 1, 4)}, {lv(0, 1, 1), lv(5, 1, 4), lv(5, 1, 4)}, {lv(9), lv(0, 0, 9), lv(0, 0, 9)},
		{row(0, 8, 1), row(0, 8, 2), row(0, 8, 2)}, {row(0, 4, 7), row(4, 4, 7), row(0, 8, 7)}, {row(0, 6, 0), row(2, 6, 0), row(0, 8, 0)},
		{lv(1000), lv(0, 8, 1000), lv(0, 8, 1000)},
	} {
		got, e := level.Max(x.a, x.b)
		want(t, "Max", got, e, x.want, api.OK)
		got, e = level.Max(x.b, x.a)
		want(t, "Max", got, e, x.want, api.OK)
	}
	for _, x := range [][2]api.Level{{row(0, 5, 0), row(5, 4, 0)}, {row(0, 8, 0), row(8, 8, 0)}, {row(0, 8, 5), lv(0, 8, 0)}} {
		got, e := level.Max(x[0], x[1])
		want(t, "Max", got, e, api.Level{}, api.ErrLimit)
	}
	for _, a := range invalid() {
		got, e := level.Max(a, row(20, 8, 0))
		want(t, "Max", got, e, api.Level{}, api.ErrForm)
		got, e = level.Max(row(20, 8, 0), a)
		want(t, "Max", got, e, api.Level{}, api.ErrForm)
	}
}

func TestSubst(t *testing.T) {
	for _, x := range []struct {
		a    api.Level
		by   []api.Level
		want api.Level
	}{
		{lv(0, 0, 1), []api.Level{lv(3, 1, 0)}, lv(4, 1, 1)},
		{lv(0, 0, 1), nil, lv(0, 0, 1)},
		{lv(6), []api.Level{lv(9)}, lv(6)},
		{lv(2, 0, 2), []api.Level{lv(0)}, lv(2)},
		{lv(2, 0, 1), []api.Level{lv(0)}, lv(2)},
		{lv(1, 1, 2), []api.Level{lv(7)}, lv(0, 1, 2)},
		{lv(0, 0, 1, 2, 0), []api.Level{lv(0, 2, 5)}, lv(0, 2, 6)},
		{lv(0, 0, 0, 1, 0), []api.Level{lv(0, 1, 0), lv(0, 0, 0)}, lv(0, 0, 0, 1, 0)},
		{lv(0, 1, 3, 0, 0), []api.Level{lv(0, 1, 0), lv(0, 0, 0)}, lv(0, 0, 3, 1, 0)},
		{lv(0, 0, 500), []api.Level{lv(500, 3, 500)}, lv(0, 3, 1000)},
		{lv(5, 0, 1), []api.Level{lv(3, 4, 0, 2, 3)}, lv(5, 2, 4, 4, 1)},
		{row(0, 8, 0), []api.Level{row(0, 8, 0), row(0, 8, 1), row(0, 8, 2), row(0, 8, 3), row(0, 8, 4), row(0, 8, 5), row(0, 8, 6), row(0, 8, 7)}, row(0, 8, 7)},
	} {
		got, e := level.Subst(x.a, x.by)
		want(t, "Subst", got, e, x.want, api.OK)
	}
}

func TestSubstErrors(t *testing.T) {
	for _, x := range []struct {
		a  api.Level
		by []api.Level
	}{
		{lv(0, 0, 900), []api.Level{lv(101)}},
		{lv(0, 0, 1), []api.Level{lv(0, 1, 1000)}},
		{lv(0, 0, 1), []api.Level{lv(1000, 1, 1000)}},
		{lv(0, 0, 0, 1, 0), []api.Level{row(2, 8, 0)}},
		{lv(0, 0, 0, 1, 0), []api.Level{row(2, 5, 0), row(7, 4, 0)}},
	} {
		got, e := level.Subst(x.a, x.by)
		want(t, "Subst", got, e, api.Level{}, api.ErrLimit)
	}
	for _, bad := range invalid() {
		got, e := level.Subst(bad, nil)
		want(t, "Subst", got, e, api.Level{}, api.ErrForm)
		got, e = level.Subst(lv(0, 0, 1000, 1, 0), []api.Level{lv(1000), bad})
		want(t, "Subst by an invalid level behind a limit", got, e, api.Level{}, api.ErrForm)
		got, e = level.Subst(lv(0, 1, 1), []api.Level{bad, lv(3), bad})
		want(t, "Subst beside invalid levels", got, e, lv(4), api.OK)
	}
}

// R4

func TestArgumentsAreLeftAlone(t *testing.T) {
	list := []api.LVar{{V: 5, Plus: 1}, {V: 1, Plus: 0}, {V: 9, Plus: 9}}
	a := api.Level{Const: 1, Vars: list[:2]}
	b := clone(a)
	by := []api.Level{lv(0), clone(a)}
	results := []func() (api.Level, api.Errno){
		func() (api.Level, api.Errno) { return level.Normal(a) },
		func() (api.Level, api.Errno) { return level.Suc(a) },
		func() (api.Level, api.Errno) { return level.Max(a, lv(0)) },
		func() (api.Level, api.Errno) { return level.Max(lv(0), a) },
		func() (api.Level, api.Errno) { return level.Subst(a, nil) },
		func() (api.Level, api.Errno) { return level.Subst(lv(0, 1, 0), by) },
	}
	for i, f := range results {
		got, e := f()
		if e != api.OK || len(got.Vars) != 2 || got.Vars[1].V != 5 {
			t.Fatalf("result %d is %+v, %v", i, got, e)
		}
		got.Vars[0], got.Vars[1] = api.LVar{V: 77}, api.LVar{V: 78}
		_ = append(got.Vars, api.LVar{V: 79})
		if !same(a, b) || !same(by[1], b) || list[2].V != 9 {
			t.Fatalf("result %d shares memory with an argument", i)
		}
	}
	level.Leq(a, a)
	level.Equal(a, b)
	level.Eval(a, []int{1, 2})
	level.Format(a)
	if l := level.Vars(a); !slices.Equal(l, []int{1, 5}) || !same(a, b) {
		t.Errorf("Vars = %v of %+v", l, a)
	}
}

func TestEmptyAndNil(t *testing.T) {
	a := api.Level{Const: 3, Vars: []api.LVar{}}
	if !level.Valid(a) || !level.Equal(a, lv(3)) || len(level.Vars(a)) != 0 {
		t.Error("an empty list is not as a nil one")
	}
	got, e := level.Subst(a, []api.Level{})
	want(t, "Subst", got, e, lv(3), api.OK)
}
