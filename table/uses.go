package table

import (
	"tenet/api"
	"tenet/term"
)

// Recursive is described in P4.5.
func Recursive(t api.Table, name string) ([]int, api.Errno) {
	i := Find(t, name)
	if i < 0 || t.Decls[i].Kind != api.KData {
		return nil, api.ErrName
	}
	var list []int
	for k, c := range t.Decls[i].Cons {
		if shapeOf(t.Decls[i], c.Arg).kind != plain {
			list = append(list, k)
		}
	}
	return list, api.OK
}

// Assumes is described in P4.5.
func Assumes(t api.Table) []string {
	var list []string
	for _, d := range t.Decls {
		if d.Kind == api.KAssume {
			list = append(list, d.Name)
		}
	}
	return list
}

// Uses is described in P4.5.
func Uses(t api.Table, name string) ([]string, api.Errno) {
	s := scopeOf(t)
	if !s.has(name) {
		return nil, api.ErrName
	}
	reached := s.reached(name)
	// What is listed once must not be listed again, where a second declaration has its name.
	reached[name] = false
	var list []string
	for _, d := range t.Decls {
		if reached[d.Name] {
			list = append(list, d.Name)
			reached[d.Name] = false
		}
	}
	return list, api.OK
}

// reached returns the names to which a name leads, itself among them; names that are not declared lead nowhere.
func (s scope) reached(name string) map[string]bool {
	found := map[string]bool{name: true}
	for open := []string{name}; len(open) > 0; {
		d := s.decls[open[0]]
		open = open[1:]
		for _, n := range namesIn(d) {
			if !found[n] {
				found[n] = true
				open = append(open, n)
			}
		}
	}
	return found
}

// namesIn returns the names in all terms of a declaration.
func namesIn(d api.Decl) []string {
	list := term.Names(d.Type)
	list = append(list, term.Names(d.Body)...)
	list = append(list, term.Names(d.Param)...)
	for _, c := range d.Cons {
		list = append(list, term.Names(c.Arg)...)
	}
	return list
}
