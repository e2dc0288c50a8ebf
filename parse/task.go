package parse

import (
	"slices"

	"baldric/api"
)

// taskReader reads a task of a net.
type taskReader struct {
	*netReader
	task api.Task
	vars rows
}

// clause is what a task may say: the word that it begins with, how the rest of it is read, whether it may stand once only, and whether it stood already.
type clause struct {
	word  string
	read  func()
	once  bool
	stood bool
}

func (n *netReader) readTask() {
	t := taskReader{netReader: n, task: plain(n.fresh(n.tasks)), vars: rows{}}
	n.must("{")
	l := t.clauses()
	for t.says(l) {
	}
	n.must("}")
	n.tasks.add(t.task.Name)
	n.net.Tasks = append(n.net.Tasks, t.task)
}

// plain is a task that says nothing.
func plain(name string) api.Task {
	return api.Task{Name: name, Guard: part(api.ENum, 1), Join: api.All, Split: api.All}
}

func (t *taskReader) clauses() []clause {
	return []clause{
		{word: "var", read: t.variable},
		{word: "when", read: t.when, once: true},
		{word: "join", read: t.join, once: true},
		{word: "split", read: t.split, once: true},
		{word: "in", read: t.in},
		{word: "out", read: t.out},
		{word: "cancel", read: t.cancel},
		{word: "after", read: t.after, once: true},
		{word: "many", read: t.many, once: true},
	}
}

// says tells whether one of l was next, and reads it.
func (t *taskReader) says(l []clause) bool {
	i := slices.IndexFunc(l, func(c clause) bool { return t.is(c.word) })
	if i < 0 {
		return false
	}
	if l[i].once && l[i].stood {
		t.fail(t.here().At, api.ErrTwice)
		return false
	}
	l[i].stood = true
	t.step()
	l[i].read()
	t.must(";")
	return true
}

func (t *taskReader) variable() {
	name := t.fresh(t.vars)
	t.must(":")
	colour := t.known(t.colours)
	t.vars.add(name)
	t.task.Vars = append(t.task.Vars, api.Var{Name: name, Colour: colour})
}

func (t *taskReader) when() { t.task.Guard = t.expr() }

func (t *taskReader) join() { t.task.Join = t.kind() }

func (t *taskReader) split() { t.task.Split = t.kind() }

func (t *taskReader) in() { t.task.Ins = append(t.task.Ins, t.arc()) }

func (t *taskReader) out() { t.task.Outs = append(t.task.Outs, t.arc()) }

func (t *taskReader) cancel() { t.task.Cancel = append(t.task.Cancel, t.known(t.places)) }

func (t *taskReader) after() { t.task.After = t.number() }

func (t *taskReader) many() {
	for i := range t.task.Many {
		if i > 0 {
			t.must(",")
		}
		t.task.Many[i] = t.number()
	}
}

// expr is an expression of the variables that are declared so far.
func (t *taskReader) expr() api.Expr {
	return exprReader{reader: &t.reader, vars: t.vars}.whole()
}

func (t *taskReader) arc() api.Arc {
	a := api.Arc{Place: t.known(t.places)}
	t.must("(")
	a.Expr = t.expr()
	t.must(")")
	return a
}

// kind is which join, or split, is next.
func (t *taskReader) kind() int {
	switch {
	case t.took("and"):
		return api.All
	case t.took("xor"):
		return api.One
	case t.took("or"):
		return api.Some
	}
	t.wrong()
	return 0
}
