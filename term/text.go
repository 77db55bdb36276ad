package term

import (
	"strconv"
	"strings"

	"tenet/api"
	"tenet/level"
)

// Format is described in P3.7.
func Format(t api.Term) (string, api.Errno) {
	if !Valid(t) {
		return "", api.ErrForm
	}
	var text strings.Builder
	write(&text, t)
	return text.String(), api.OK
}

// Parse is described in P3.7. It reads more than the texts of valid terms, and then asks whether the text is the one that Format writes: so nothing has two texts.
func Parse(s string) (api.Term, api.Errno) {
	r := reader{rest: s}
	t, ok := r.term(1)
	if !ok {
		return api.Term{}, api.ErrText
	}
	back, e := Format(t)
	if e != api.OK || back != s {
		return api.Term{}, api.ErrText
	}
	return t, api.OK
}

// write adds the text of a valid term.
func write(text *strings.Builder, t api.Term) {
	row := shapes[t.Op]
	switch {
	case t.Op == api.TVar || t.Op == api.THole:
		text.WriteString(row.word + strconv.Itoa(t.N))
	case t.Op == api.TConst:
		writeName(text, t)
	case len(t.L) > 0 || t.Op == api.TType:
		text.WriteString("(" + row.word)
		writeFields(text, t)
		for _, part := range t.L {
			text.WriteString(" ")
			write(text, part)
		}
		text.WriteString(")")
	default:
		text.WriteString(row.word)
	}
}

// writeFields adds what stands between the word of a node and its parts.
func writeFields(text *strings.Builder, t api.Term) {
	row := shapes[t.Op]
	switch row.kind {
	case named:
		text.WriteString(" ")
		writeName(text, t)
	case leveled:
		text.WriteString(" " + levelText(t.U[0]))
	}
	if row.most > 0 {
		text.WriteString(" " + strconv.Itoa(t.N))
	}
}

func writeName(text *strings.Builder, t api.Term) {
	text.WriteString("@" + t.S)
	if len(t.U) == 0 {
		return
	}
	var list []string
	for _, a := range t.U {
		list = append(list, levelText(a))
	}
	text.WriteString("{" + strings.Join(list, ";") + "}")
}

// levelText returns the text of a level that has one, as the levels of a valid term have.
func levelText(a api.Level) string {
	s, _ := level.Format(a)
	return s
}

// reader reads a term from the begin of a text.
type reader struct {
	rest  string
	nodes int
}

// term reads a term whose root has the level depth; false if it is none, or too large.
func (r *reader) term(depth int) (api.Term, bool) {
	r.nodes++
	if r.nodes > api.MaxNodes || depth > api.MaxDepth {
		return api.Term{}, false
	}
	switch {
	case r.skip("("):
		return r.inner(depth)
	case r.skip("#"):
		return r.numbered(api.TVar)
	case r.skip("?"):
		return r.numbered(api.THole)
	case strings.HasPrefix(r.rest, "@"):
		t := api.Term{Op: api.TConst}
		ok := r.name(&t)
		return t, ok
	}
	return api.Term{Op: r.op()}, true
}

func (r *reader) numbered(op int) (api.Term, bool) {
	n, ok := r.number()
	return api.Term{Op: op, N: n}, ok
}

// inner reads the rest of a term in brackets.
func (r *reader) inner(depth int) (api.Term, bool) {
	t := api.Term{Op: r.op()}
	if !r.fields(&t) {
		return api.Term{}, false
	}
	for r.skip(" ") {
		part, ok := r.term(depth + 1)
		if !ok {
			return api.Term{}, false
		}
		t.L = append(t.L, part)
	}
	return t, r.skip(")")
}

// fields reads what stands between the word of a node and its parts.
func (r *reader) fields(t *api.Term) bool {
	row, ok := shapes[t.Op], true
	switch row.kind {
	case named:
		ok = r.skip(" ") && r.name(t)
	case leveled:
		ok = r.skip(" ") && r.level(t)
	}
	if !ok || row.most == 0 {
		return ok
	}
	ok = r.skip(" ")
	if ok {
		t.N, ok = r.number()
	}
	return ok
}

// name reads a name with its levels.
func (r *reader) name(t *api.Term) bool {
	if !r.skip("@") {
		return false
	}
	t.S = r.take(nameLength(r.rest))
	if !r.skip("{") {
		return true
	}
	for r.level(t) && len(t.U) <= api.MaxParams {
		if !r.skip(";") {
			return r.skip("}")
		}
	}
	return false
}

// level reads one more level of a node.
func (r *reader) level(t *api.Term) bool {
	end := strings.IndexAny(r.rest, " ;})")
	if strings.HasPrefix(r.rest, "max(") {
		end = strings.IndexByte(r.rest, ')') + 1
	}
	if end < 0 {
		return false
	}
	a, e := level.Parse(r.take(end))
	t.U = append(t.U, a)
	return e == api.OK
}

// op reads a word and returns its Op, or 0 if it is that of none.
func (r *reader) op() int {
	n := 0
	for n < len(r.rest) && 'a' <= r.rest[n] && r.rest[n] <= 'z' {
		n++
	}
	word := r.take(n)
	for op, row := range shapes {
		if row.word == word {
			return op
		}
	}
	return 0
}

func (r *reader) number() (int, bool) {
	n := 0
	for n < len(r.rest) && isDigit(r.rest[n]) {
		n++
	}
	value, err := strconv.Atoi(r.take(n))
	return value, err == nil
}

// skip takes a text away if it is what comes next.
func (r *reader) skip(s string) bool {
	rest, is := strings.CutPrefix(r.rest, s)
	r.rest = rest
	return is
}

// take takes the next n bytes away and returns them.
func (r *reader) take(n int) string {
	s := r.rest[:n]
	r.rest = r.rest[n:]
	return s
}
