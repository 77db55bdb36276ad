package level_test

import (
	"strings"
	"testing"

	"tenet/api"
	"tenet/level"
)

// P1.5

func TestFormat(t *testing.T) {
	for _, x := range []struct {
		a    api.Level
		want string
	}{
		{lv(0), "0"}, {lv(7), "7"}, {lv(1000), "1000"}, {lv(0, 0, 0), "u0"}, {lv(0, 1199, 1000), "u1199+1000"},
		{lv(2, 0, 2), "u0+2"}, {lv(3, 0, 2), "max(u0+2,3)"}, {lv(1, 0, 0), "max(u0,1)"}, {lv(0, 5, 0, 1, 3), "max(u1+3,u5)"},
		{lv(9, 10, 0, 9, 8), "max(u9+8,u10,9)"}, {row(0, 8, 0), "max(u0,u1,u2,u3,u4,u5,u6,u7)"},
	} {
		if s, e := level.Format(x.a); s != x.want || e != api.OK {
			t.Errorf("Format(%+v) = %q, %v, want %q", x.a, s, e, x.want)
		}
	}
	for _, a := range invalid() {
		if s, e := level.Format(a); s != "" || e != api.ErrForm {
			t.Errorf("Format(%+v) = %q, %v", a, s, e)
		}
	}
}

func TestParse(t *testing.T) {
	for _, x := range []struct {
		s    string
		want api.Level
	}{
		{"0", lv(0)}, {"7", lv(7)}, {"1000", lv(1000)}, {"u0", lv(0, 0, 0)}, {"u1199+1000", lv(0, 1199, 1000)},
		{"max(u0+2,3)", lv(3, 0, 2)}, {"max(u0,1)", lv(1, 0, 0)}, {"max(u9+8,u10,9)", lv(9, 9, 8, 10, 0)},
		{"max(u0,u1,u2,u3,u4,u5,u6,u7)", row(0, 8, 0)},
		{"max(u0,u1,u2,u3,u4,u5,u6,u7,1)", api.Level{Const: 1, Vars: row(0, 8, 0).Vars}},
	} {
		got, e := level.Parse(x.s)
		want(t, "Parse of "+x.s, got, e, x.want, api.OK)
	}
}

func TestParseErrors(t *testing.T) {
	for _, s := range []string{
		"", " ", "u", "00", "07", "-1", "-0", "+1", "1001", "1_0", "0x1", "99999999999999999999", "18446744073709551616", "1 ", " 1", "1\n", "3+1", "\u0661",
		"u1200", "u-1", "u-0", "u+1", "u01", "u00", "U0", "v0", "uu0", "u18446744073709551616", "u 0", "u0 ", "u0\x00",
		"u0+0", "u0+", "u0+01", "u0+1001", "u0++1", "u0+-1", "u0+1+1", "1+u0", "u0+u1", "u0+18446744073709551617", "u0,u1", "u0,1", "u0)", "(u0)",
		"max", "max(", "max()", "max(,)", "max(0)", "max(5)", "max(u0)", "max(u0+1)", "max(3,u0)", "max(0,u0)", "max(u0,0)", "max(u1,u0)", "max(u0+2,1)", "max(u0+2,2)",
		"max(u0,u0)", "max(u0,u0+1)", "max(u0+1,u0)", "max(1,2)", "max(2,2)", "max(u0,1,2)", "max(u0,1,u1)", "max(u0, 1)", "max (u0,1)", "max(u0,1", "max(u0,1))", "max(u0,1) ", "max(u0,1,)", "max(,u0,1)", "max(u0,,1)",
		"max(max(u0,1),2)", "max(u0,max(u1,2))", "MAX(u0,1)", "max(u0,1)max(u0,1)", "max(u0,u1200)", "max(u0,1001)", "max(u0;1)",
		"max(u0,u1,u2,u3,u4,u5,u6,u7,u8)", "max(u0,u1,u2,u3,u4,u5,u6,u7,u8,1)", "max(u0,u1,u2,u3,u4,u5,u6,u7,1,2)",
		strings.Repeat("9", 100000), strings.Repeat("u", 100000), "max(" + strings.Repeat("u0,", 100000) + "1)", "max(" + strings.Repeat(",", 100000) + ")", strings.Repeat("max(", 100000),
	} {
		got, e := level.Parse(s)
		if len(s) > 60 {
			s = s[:60]
		}
		want(t, "Parse of "+s, got, e, api.Level{}, api.ErrText)
	}
}

// P1.8

func TestParseOfFormat(t *testing.T) {
	list := append(small(), lv(1000), lv(1000, 1199, 999, 3, 0), row(0, 8, 1000), row(1192, 8, 0), api.Level{Const: 1000, Vars: row(100, 8, 10).Vars})
	for _, a := range list {
		s, e := level.Format(a)
		if e != api.OK {
			t.Fatalf("Format(%+v): %v", a, e)
		}
		c, _ := level.Normal(a)
		got, e := level.Parse(s)
		want(t, "Parse of "+s, got, e, c, api.OK)
	}
}

// TestFormatOfParse reads all short texts of the letters that texts have: those that are read are written again.
func TestFormatOfParse(t *testing.T) {
	texts := []string{""}
	for range 6 {
		var longer []string
		for _, s := range texts {
			for _, c := range []string{"u", "0", "1", "2", "+", ",", "max(", ")"} {
				longer = append(longer, s+c)
			}
		}
		for _, s := range longer {
			readAndWritten(t, s)
		}
		texts = longer
	}
}

// TestFormatOfParseNearTexts changes one letter of a text in every way: what is read then has that text.
func TestFormatOfParseNearTexts(t *testing.T) {
	const letters = "u0123456789+-,max() "
	for _, s := range []string{"1000", "u1199+1000", "max(u0+2,3)", "max(u1+3,u5,u10)", "max(u9+8,u10,9)"} {
		for i := range len(s) + 1 {
			for j := range len(letters) {
				readAndWritten(t, s[:i]+letters[j:j+1]+s[i:])
				if i < len(s) {
					readAndWritten(t, s[:i]+letters[j:j+1]+s[i+1:])
				}
			}
			if i < len(s) {
				readAndWritten(t, s[:i]+s[i+1:])
			}
		}
	}
}

func readAndWritten(t *testing.T, s string) {
	t.Helper()
	a, e := level.Parse(s)
	if e == api.ErrText && same(a, api.Level{}) {
		return
	}
	if back, f := level.Format(a); e != api.OK || f != api.OK || back != s || !canonical(a) {
		t.Errorf("Parse(%q) = %+v, %v, which is written as %q", s, a, e, back)
	}
}
