package level

import (
	"strconv"
	"strings"

	"tenet/api"
)

// Format is described in P1.5.
func Format(a api.Level) (string, api.Errno) {
	c, e := Normal(a)
	if e != api.OK {
		return "", e
	}
	var t text
	eachPart(c, t.add)
	return t.whole(), api.OK
}

// Parse is described in P1.5. It reads more than the texts of canonical levels, and then asks whether the text is the one that Format writes: so nothing has two texts.
func Parse(s string) (api.Level, api.Errno) {
	a, ok := read(s)
	if !ok {
		return api.Level{}, api.ErrText
	}
	c, e := Normal(a)
	if e != api.OK {
		return api.Level{}, api.ErrText
	}
	if back, _ := Format(c); back != s {
		return api.Level{}, api.ErrText
	}
	return c, api.OK
}

// text gathers the texts of a level's parts.
type text struct {
	parts []string
}

func (t *text) add(part string) {
	t.parts = append(t.parts, part)
}

func (t *text) whole() string {
	if len(t.parts) == 1 {
		return t.parts[0]
	}
	return "max(" + strings.Join(t.parts, ",") + ")"
}

// eachPart tells the texts of the parts of a canonical level in order.
func eachPart(a api.Level, tell func(string)) {
	for _, x := range a.Vars {
		s := "u" + strconv.Itoa(x.V)
		if x.Plus != 0 {
			s += "+" + strconv.Itoa(x.Plus)
		}
		tell(s)
	}
	if a.Const != 0 || len(a.Vars) == 0 {
		tell(strconv.Itoa(a.Const))
	}
}

// read returns the level that the parts of a text spell, in whatever order they stand; false if one of them spells nothing.
func read(s string) (api.Level, bool) {
	var a api.Level
	for _, part := range parts(s) {
		name, isVar := strings.CutPrefix(part, "u")
		if isVar {
			x, ok := readVar(name)
			if !ok {
				return api.Level{}, false
			}
			a.Vars = append(a.Vars, x)
			continue
		}
		n, err := strconv.Atoi(part)
		if err != nil {
			return api.Level{}, false
		}
		a.Const = n
	}
	return a, true
}

// parts returns the texts of the parts. A canonical level has MaxAtoms + 1 of them at most: what lies behind them stays one piece, however long it is.
func parts(s string) []string {
	inside, several := strings.CutPrefix(s, "max(")
	if !several {
		return []string{s}
	}
	return strings.SplitN(strings.TrimSuffix(inside, ")"), ",", api.MaxAtoms+1)
}

// readVar reads a part behind its u.
func readVar(s string) (api.LVar, bool) {
	name, plus, more := strings.Cut(s, "+")
	if !more {
		plus = "0"
	}
	v, noName := strconv.Atoi(name)
	n, noPlus := strconv.Atoi(plus)
	return api.LVar{V: v, Plus: n}, noName == nil && noPlus == nil
}
