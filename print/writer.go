package print

import (
	"strconv"
	"strings"

	"baldric/api"
	"baldric/expr"
)

// nothing is the name of a number that there is none of, and what is written for a kind that is none.
const nothing = "?"

// writer writes the parts of a net; it holds the names that they tell by numbers.
type writer struct {
	net  api.Net
	vars []string // of the task whose clauses are written
}

// lines puts behind l what line makes of each row.
func lines[T any](l []string, w writer, rows []T, line func(writer, T) string) []string {
	for _, row := range rows {
		l = append(l, line(w, row))
	}
	return l
}

func (w writer) colour(c api.Colour) string {
	return "colour " + c.Name + " = " + w.members(c) + ";"
}

// members is what the colour c consists of.
func (w writer) members(c api.Colour) string {
	switch c.Kind {
	case api.CInt:
		return "int " + strconv.Itoa(c.Lo) + " .. " + strconv.Itoa(c.Hi)
	case api.CEnum:
		return "enum " + strings.Join(c.Names, ", ")
	case api.CPair:
		return "pair " + w.colourAt(c.First) + ", " + w.colourAt(c.Then)
	}
	return nothing
}

func (w writer) place(p api.Place) string {
	s := "place " + p.Name + ": " + w.colourAt(p.Colour)
	if len(p.First) == 0 {
		return s + ";"
	}
	return s + " = " + strings.Join(lines(nil, w, p.First, writer.few), ", ") + ";"
}

// few is a member, and how many tokens of it there are.
func (w writer) few(row [2]int) string { return strconv.Itoa(row[0]) + "*" + strconv.Itoa(row[1]) }

func (w writer) task(t api.Task) string {
	var b strings.Builder
	b.WriteString("task " + t.Name + " {")
	for _, s := range w.clauses(t) {
		b.WriteString("\n\t" + s + ";")
	}
	b.WriteString("\n}")
	return b.String()
}

// clauses is what t says, but for what holds where nothing is said.
func (w writer) clauses(t api.Task) []string {
	w.vars = lines(nil, w, t.Vars, writer.name)
	l := lines(nil, w, t.Vars, writer.variable)
	if !expr.Same(t.Guard, api.Expr{Kind: api.ENum, Num: 1}) {
		l = append(l, "when "+w.expr(t.Guard))
	}
	if t.Join != api.All {
		l = append(l, "join "+kind(t.Join))
	}
	if t.Split != api.All {
		l = append(l, "split "+kind(t.Split))
	}
	l = lines(l, w, t.Ins, writer.in)
	l = lines(l, w, t.Outs, writer.out)
	l = lines(l, w, t.Cancel, writer.cancel)
	if t.After != 0 {
		l = append(l, "after "+strconv.Itoa(t.After))
	}
	if t.Many != ([3]int{}) {
		l = append(l, "many "+strings.Join(lines(nil, w, t.Many[:], writer.number), ", "))
	}
	return l
}

func (w writer) name(v api.Var) string { return v.Name }

func (w writer) variable(v api.Var) string { return "var " + v.Name + ": " + w.colourAt(v.Colour) }

func (w writer) in(a api.Arc) string { return "in " + w.arc(a) }

func (w writer) out(a api.Arc) string { return "out " + w.arc(a) }

func (w writer) arc(a api.Arc) string { return w.placeAt(a.Place) + "(" + w.expr(a.Expr) + ")" }

func (w writer) cancel(place int) string { return "cancel " + w.placeAt(place) }

func (w writer) number(n int) string { return strconv.Itoa(n) }

// expr is an expression of the variables of the task.
func (w writer) expr(e api.Expr) string { return expr.Text(e, w.vars) }

// kind is the word of a join, or a split, that is not All; that one is never written.
func kind(of int) string {
	switch of {
	case api.One:
		return "xor"
	case api.Some:
		return "or"
	}
	return nothing
}

func (w writer) colourAt(k int) string {
	if !within(k, len(w.net.Colours)) {
		return nothing
	}
	return w.net.Colours[k].Name
}

func (w writer) placeAt(k int) string {
	if !within(k, len(w.net.Places)) {
		return nothing
	}
	return w.net.Places[k].Name
}
