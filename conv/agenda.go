package conv

// task is a part of a comparison. It reports false if it shows a difference; otherwise what it leaves open is on the agenda.
type task func() bool

// agenda holds the tasks that are still to be done, all of which have to succeed. They are kept here, and not by calls within calls, since a term may unfold to one that is far deeper than such calls could be.
type agenda struct {
	first   *entry
	choices []choice
}

// entry is a task, and those behind it.
type entry struct {
	task task
	rest *entry
}

// choice is what is done instead if an attempt shows a difference.
type choice struct {
	otherwise task
	rest      *entry
}

// next puts tasks ahead of all others, in their order.
func (g *agenda) next(tasks ...task) bool {
	for i := len(tasks) - 1; i >= 0; i-- {
		g.first = &entry{tasks[i], g.first}
	}
	return true
}

// attempt puts a task ahead of all others; if it, or what it leaves open, shows a difference, another one takes its place.
func (g *agenda) attempt(try, otherwise task) bool {
	g.choices = append(g.choices, choice{otherwise, g.first})
	return g.next(try, g.commit)
}

// commit is the task behind an attempt that has succeeded: it takes away the choice.
func (g *agenda) commit() bool {
	g.choices = g.choices[:len(g.choices)-1]
	return true
}

// goBack goes back to the last choice that is there; false if there is none.
func (g *agenda) goBack() bool {
	last := len(g.choices) - 1
	if last < 0 {
		return false
	}
	c := g.choices[last]
	g.choices = g.choices[:last]
	g.first = &entry{c.otherwise, c.rest}
	return true
}

// run does all tasks; false if they show a difference.
func (g *agenda) run() bool {
	for g.first != nil {
		do := g.first.task
		g.first = g.first.rest
		if !do() && !g.goBack() {
			return false
		}
	}
	return true
}
