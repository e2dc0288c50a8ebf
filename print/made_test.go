package print

import (
	"fmt"
	"math/rand"
	"strconv"
	"strings"

	"baldric/api"
	"baldric/expr"
)

func num(n int) api.Expr  { return api.Expr{Kind: api.ENum, Num: n} }
func vari(n int) api.Expr { return api.Expr{Kind: api.EVar, Num: n} }
func of(kind, n int, kids ...api.Expr) api.Expr {
	return api.Expr{Kind: kind, Num: n, Kids: kids}
}

// pick is one of these.
func pick[T any](r *rand.Rand, l ...T) T { return l[r.Intn(len(l))] }

// whole is a net that has each kind of part, more than one of each.
func whole() api.Net {
	sum := func() api.Expr { return of(api.EBin, api.Mul, of(api.EBin, api.Add, vari(0), num(1)), vari(1)) }
	return api.Net{
		Colours: []api.Colour{
			{Name: "n", Kind: api.CInt, Lo: -1, Hi: 3},
			{Name: "c", Kind: api.CEnum, Names: []string{"red", "blue"}},
			{Name: "p", Kind: api.CPair, First: 1, Then: 0},
			{Name: "q", Kind: 7, Lo: 2, Hi: 5, Names: []string{"x", "y", "z"}, First: 3, Then: -4},
		},
		Places: []api.Place{
			{Name: "a", First: api.Bag{{0, 3}, {2, 1}}},
			{Name: "b", Colour: 2, First: api.Bag{{4, 5}, {1, 2}}},
			{Name: "d", Colour: 1},
		},
		Tasks: []api.Task{
			{
				Name:  "t",
				Vars:  []api.Var{{Name: "x"}, {Name: "y", Colour: 2}},
				Guard: of(api.EIf, 0, of(api.EBin, api.Lt, vari(0), num(3)), of(api.ENot, 0, vari(1)), sum()),
				Join:  api.Some, Split: api.One,
				Ins:    []api.Arc{{Place: 0, Expr: vari(0)}, {Place: 1, Expr: sum()}},
				Outs:   []api.Arc{{Place: 1, Expr: sum()}, {Place: 2, Expr: of(api.ENeg, 0, vari(1))}},
				Cancel: []int{2, 1}, After: 5, Many: [3]int{1, 3, 2},
			},
			{Name: "u", Guard: num(1), Join: api.All, Split: api.All},
		},
		From: 0, To: 1,
	}
}

// spelt is the text that a net must have, put together part by part as the document names them.
func spelt(n api.Net) string {
	var b strings.Builder
	for _, c := range n.Colours {
		what := map[int]string{
			api.CInt:  fmt.Sprintf("int %d .. %d", c.Lo, c.Hi),
			api.CEnum: "enum " + strings.Join(c.Names, ", "),
			api.CPair: fmt.Sprintf("pair %s, %s", colourName(n, c.First), colourName(n, c.Then)),
		}[c.Kind]
		if what == "" {
			what = "?"
		}
		fmt.Fprintf(&b, "colour %s = %s;\n", c.Name, what)
	}
	for _, p := range n.Places {
		fmt.Fprintf(&b, "place %s: %s", p.Name, colourName(n, p.Colour))
		for i, row := range p.First {
			fmt.Fprintf(&b, "%s%d*%d", []string{" = ", ", "}[min(i, 1)], row[0], row[1])
		}
		b.WriteString(";\n")
	}
	for k := range n.Tasks {
		b.WriteString(speltTask(n, k) + "\n")
	}
	fmt.Fprintf(&b, "from %s;\nto %s;\n", placeName(n, n.From), placeName(n, n.To))
	return b.String()
}

func colourName(n api.Net, k int) string {
	for i, c := range n.Colours {
		if i == k {
			return c.Name
		}
	}
	return "?"
}

func placeName(n api.Net, k int) string {
	for i, p := range n.Places {
		if i == k {
			return p.Name
		}
	}
	return "?"
}

func speltTask(n api.Net, k int) string {
	var b strings.Builder
	fmt.Fprintf(&b, "task %s {\n", n.Tasks[k].Name)
	for _, s := range speltClauses(n, n.Tasks[k]) {
		fmt.Fprintf(&b, "\t%s;\n", s)
	}
	return b.String() + "}"
}

func speltClauses(n api.Net, k api.Task) []string {
	var l, names []string
	say := func(form string, what ...any) { l = append(l, fmt.Sprintf(form, what...)) }
	for _, v := range k.Vars {
		say("var %s: %s", v.Name, colourName(n, v.Colour))
		names = append(names, v.Name)
	}
	if k.Guard.Kind != api.ENum || k.Guard.Num != 1 || len(k.Guard.Kids) != 0 {
		say("when %s", expr.Text(k.Guard, names))
	}
	for i, which := range []int{k.Join, k.Split} {
		word, is := map[int]string{api.All: "and", api.One: "xor", api.Some: "or"}[which]
		if !is {
			word = "?"
		}
		if word != "and" {
			say("%s %s", []string{"join", "split"}[i], word)
		}
	}
	for _, a := range k.Ins {
		say("in %s(%s)", placeName(n, a.Place), expr.Text(a.Expr, names))
	}
	for _, a := range k.Outs {
		say("out %s(%s)", placeName(n, a.Place), expr.Text(a.Expr, names))
	}
	for _, p := range k.Cancel {
		say("cancel %s", placeName(n, p))
	}
	if k.After != 0 {
		say("after %d", k.After)
	}
	if k.Many[0] != 0 || k.Many[1] != 0 || k.Many[2] != 0 {
		say("many %d, %d, %d", k.Many[0], k.Many[1], k.Many[2])
	}
	return l
}

// loose makes nets of which nothing is sure.
type loose struct{ *rand.Rand }

// rows is a few of what each makes, none often.
func rows[T any](m loose, each func() T) []T {
	var l []T
	for range m.Intn(4) {
		l = append(l, each())
	}
	return l
}

func (m loose) name() string {
	return pick(m.Rand, "a", "b", "n", "x", "", "?", "task", "or", "a b", "\n", "é", "\x00\xff", ";", "0", strings.Repeat("n", 2*api.MaxName))
}

func (m loose) number() int {
	return pick(m.Rand, 0, 0, 1, 1, 2, 2, 3, 4, 5, -1, -7, 12, api.MaxCount+1, api.MaxInt, api.MinInt, m.Int())
}

func (m loose) expr(deep int) api.Expr {
	e := api.Expr{Kind: m.Intn(9) - 1, Num: m.number()}
	if deep > 1 {
		e.Kids = rows(m, func() api.Expr { return m.expr(deep - 1) })
	}
	return e
}

func (m loose) colour() api.Colour {
	return api.Colour{Name: m.name(), Kind: m.number(), Lo: m.number(), Hi: m.number(), Names: rows(m, m.name), First: m.number(), Then: m.number()}
}

func (m loose) place() api.Place {
	return api.Place{Name: m.name(), Colour: m.number(), First: rows(m, func() [2]int { return [2]int{m.number(), m.number()} })}
}

func (m loose) arc() api.Arc { return api.Arc{Place: m.number(), Expr: m.expr(3)} }

func (m loose) task() api.Task {
	return api.Task{
		Name: m.name(), Vars: rows(m, func() api.Var { return api.Var{Name: m.name(), Colour: m.number()} }),
		Guard: pick(m.Rand, num(1), num(m.number()), m.expr(4)), Join: m.number(), Split: m.number(),
		Ins: rows(m, m.arc), Outs: rows(m, m.arc), Cancel: rows(m, m.number), After: m.number(),
		Many: [3]int{pick(m.Rand, 0, m.number()), pick(m.Rand, 0, m.number()), pick(m.Rand, 0, m.number())},
	}
}

func (m loose) net() api.Net {
	return api.Net{Colours: rows(m, m.colour), Places: rows(m, m.place), Tasks: rows(m, m.task), From: m.number(), To: m.number()}
}

// author writes texts that are nets, laid out in any way.
type author struct {
	*rand.Rand
	b                            strings.Builder
	colours, places, tasks, vars []string
}

// text is such a text.
func (m *author) text() string {
	m.colour()
	m.place()
	for range m.Intn(8) {
		pick(m.Rand, m.colour, m.place, m.task)()
	}
	m.say("from", pick(m.Rand, m.places...), ";", "to", pick(m.Rand, m.places...), ";")
	return m.b.String()
}

func (m *author) say(l ...string) {
	for _, s := range l {
		m.b.WriteString(s + pick(m.Rand, " ", " ", "  ", "\n", "\t", "\r\n", " # from x;\n"))
	}
}

// fresh is a name that none of l has.
func (m *author) fresh(l []string) string {
	s := pick(m.Rand, "a", "n", "Red", "to_", "x_Y")
	return s + strings.Repeat("_", m.Intn(2)*m.Intn(20)) + strconv.Itoa(len(l))
}

func (m *author) number() string {
	return strconv.Itoa(pick(m.Rand, 0, 0, 1, 1, 2, 3, 10, m.Intn(100), api.MaxCount, api.MaxCount+1, api.MaxInt, m.Int()))
}

// integer may be below 0.
func (m *author) integer() {
	if m.Intn(2) == 0 {
		m.say("-")
	}
	m.say(m.number())
}

func (m *author) colour() {
	name := m.fresh(m.colours)
	m.say("colour", name, "=")
	kind := m.Intn(3)
	switch {
	case kind == 0 && len(m.colours) > 0:
		m.say("pair", pick(m.Rand, m.colours...), ",", pick(m.Rand, m.colours...))
	case kind == 1:
		m.say("enum", m.fresh(nil))
		for range m.Intn(3) {
			m.say(",", m.fresh(m.colours))
		}
	default:
		m.say("int")
		m.integer()
		m.say("..")
		m.integer()
	}
	m.say(";")
	m.colours = append(m.colours, name)
}

func (m *author) place() {
	name := m.fresh(m.places)
	m.say("place", name, ":", pick(m.Rand, m.colours...))
	for i := range m.Intn(4) {
		m.say([]string{"=", ","}[min(i, 1)], m.number())
		if m.Intn(2) == 0 {
			m.say("*", m.number())
		}
	}
	m.say(";")
	m.places = append(m.places, name)
}

func (m *author) task() {
	name := m.fresh(m.tasks)
	m.say("task", name, "{")
	m.vars = nil
	once := []string{"when", "join", "split", "after", "many"}
	for range m.Intn(12) {
		which := pick(m.Rand, "var", "in", "out", "cancel")
		if i := m.Intn(12); i < len(once) {
			which = once[i]
			once = append(once[:i:i], once[i+1:]...)
		}
		m.say(which)
		m.clause(which)
		m.say(";")
	}
	m.say("}")
	m.tasks = append(m.tasks, name)
}

func (m *author) clause(which string) {
	switch which {
	case "var":
		name := m.fresh(m.vars)
		m.say(name, ":", pick(m.Rand, m.colours...))
		m.vars = append(m.vars, name)
	case "when":
		m.expr(6)
	case "join", "split":
		m.say(pick(m.Rand, "and", "xor", "or"))
	case "in", "out":
		m.say(pick(m.Rand, m.places...), "(")
		m.expr(5)
		m.say(")")
	case "cancel":
		m.say(pick(m.Rand, m.places...))
	case "after":
		m.say(m.number())
	case "many":
		m.say(m.number(), ",", m.number(), ",", m.number())
	}
}

// expr is an expression whose brackets, signs and ifs stand at most so deep within one another.
func (m *author) expr(deep int) {
	m.unary(deep)
	for deep > 1 && m.Intn(5) < 2 {
		m.say(pick(m.Rand, "+", "-", "*", "/", "%", "==", "!=", "<", "<=", "&&", "||"))
		m.unary(deep - 1)
	}
}

func (m *author) unary(deep int) {
	which := m.Intn(8)
	switch {
	case deep <= 1 || which == 0:
		m.say(pick(m.Rand, append(m.vars, m.number(), m.number())...))
	case which < 3:
		m.say(pick(m.Rand, "-", "!"))
		m.unary(deep - 1)
	case which < 4:
		m.say("if", "(")
		m.expr(deep - 1)
		m.say(",")
		m.expr(deep - 1)
		m.say(",")
		m.expr(deep - 1)
		m.say(")")
	default:
		m.say("(")
		m.expr(deep - 1)
		m.say(")")
	}
}
