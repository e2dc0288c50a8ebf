package parse

import (
	"math/rand"
	"slices"
	"strconv"
	"strings"

	"baldric/api"
	"baldric/bag"
	"baldric/calc"
	"baldric/token"
)

// maker makes nets, and writes them down at the same time.
type maker struct {
	*rand.Rand
	l   []string
	net api.Net
}

func (m *maker) write(l ...string) { m.l = append(m.l, l...) }

// pick is one of these.
func pick[T any](r *rand.Rand, l ...T) T { return l[r.Intn(len(l))] }

// label is a name, which of one row differs from those ahead.
func (m *maker) label(n int) string {
	return pick(m.Rand, "a", "b", "n", "Z_", "int_") + strconv.Itoa(n)
}

// number is one that may be written, often a small one.
func (m *maker) number() int {
	return pick(m.Rand, 0, 1, 2, 3, 10, m.Intn(100), api.MaxCount, api.MaxCount+1, api.MaxInt-1, api.MaxInt, m.Int())
}

// madeNet is a net, and its text in pieces.
func madeNet(r *rand.Rand) (api.Net, []string) {
	m := &maker{Rand: r}
	m.colour()
	m.place()
	for range r.Intn(7) {
		pick(r, m.colour, m.place, m.task)()
	}
	m.net.From, m.net.To = r.Intn(len(m.net.Places)), r.Intn(len(m.net.Places))
	m.write("from", m.net.Places[m.net.From].Name, ";", "to", m.net.Places[m.net.To].Name, ";")
	return m.net, m.l
}

func (m *maker) colour() {
	c := api.Colour{Name: m.label(len(m.net.Colours)), Kind: pick(m.Rand, api.CInt, api.CEnum, api.CPair)}
	if len(m.net.Colours) == 0 && c.Kind == api.CPair {
		c.Kind = api.CInt
	}
	m.write("colour", c.Name, "=")
	switch c.Kind {
	case api.CInt:
		m.write("int")
		c.Lo = m.integer()
		m.write("..")
		c.Hi = m.integer()
	case api.CEnum:
		for i := range 1 + m.Intn(4) {
			c.Names = append(c.Names, m.label(i/2))
			m.write([]string{"enum", ","}[min(i, 1)], c.Names[i])
		}
	case api.CPair:
		c.First, c.Then = m.Intn(len(m.net.Colours)), m.Intn(len(m.net.Colours))
		m.write("pair", m.net.Colours[c.First].Name, ",", m.net.Colours[c.Then].Name)
	}
	m.write(";")
	m.net.Colours = append(m.net.Colours, c)
}

func (m *maker) integer() int {
	n := m.number()
	below := m.Intn(2) == 0
	if below {
		m.write("-")
	}
	m.write(strconv.Itoa(n))
	if below {
		return -n
	}
	return n
}

func (m *maker) place() {
	p := api.Place{Name: m.label(len(m.net.Places)), Colour: m.Intn(len(m.net.Colours))}
	m.write("place", p.Name, ":", m.net.Colours[p.Colour].Name)
	var all []int
	for i := range m.Intn(5) {
		member, count := pick(m.Rand, m.Intn(4), m.number()), 1
		m.write([]string{"=", ","}[min(i, 1)], strconv.Itoa(member))
		if m.Intn(2) == 0 {
			count = m.Intn(4)
			if m.Intn(200) == 0 {
				count = m.number()
			}
			m.write("*", strconv.Itoa(count))
		}
		all = append(all, slices.Repeat([]int{member}, min(count, api.MaxCount))...)
	}
	m.write(";")
	if b := bag.Of(all...); len(b) > 0 {
		p.First = b
	}
	m.net.Places = append(m.net.Places, p)
}

// task writes what a task has in any order, as far as variables stand ahead of where they are used.
func (m *maker) task() {
	k := api.Task{Name: m.label(len(m.net.Tasks)), Guard: api.Expr{Kind: api.ENum, Num: 1}, Join: api.All, Split: api.All}
	m.write("task", k.Name, "{")
	left := []string{"when", "join", "split", "after", "many"}
	for range m.Intn(12) {
		clause := pick(m.Rand, "var", "in", "out", "cancel")
		if len(left) > 0 && m.Intn(2) == 0 {
			i := m.Intn(len(left))
			clause = left[i]
			left = slices.Delete(left, i, i+1)
		}
		m.write(clause)
		m.clause(clause, &k)
		m.write(";")
	}
	m.write("}")
	m.net.Tasks = append(m.net.Tasks, k)
}

func (m *maker) clause(which string, k *api.Task) {
	kinds := []string{"", "and", "xor", "or"}
	place := m.Intn(len(m.net.Places))
	switch which {
	case "var":
		v := api.Var{Name: m.label(len(k.Vars)), Colour: m.Intn(len(m.net.Colours))}
		m.write(v.Name, ":", m.net.Colours[v.Colour].Name)
		k.Vars = append(k.Vars, v)
	case "when":
		k.Guard = m.expr(k)
	case "join":
		k.Join = 1 + m.Intn(3)
		m.write(kinds[k.Join])
	case "split":
		k.Split = 1 + m.Intn(3)
		m.write(kinds[k.Split])
	case "in", "out":
		m.write(m.net.Places[place].Name, "(")
		row := map[string]*[]api.Arc{"in": &k.Ins, "out": &k.Outs}[which]
		*row = append(*row, api.Arc{Place: place, Expr: m.expr(k)})
		m.write(")")
	case "cancel":
		m.write(m.net.Places[place].Name)
		k.Cancel = append(k.Cancel, place)
	case "after":
		k.After = m.number()
		m.write(strconv.Itoa(k.After))
	case "many":
		k.Many = [3]int{m.number(), m.number(), m.number()}
		m.write(strconv.Itoa(k.Many[0]), ",", strconv.Itoa(k.Many[1]), ",", strconv.Itoa(k.Many[2]))
	}
}

func (m *maker) expr(k *api.Task) api.Expr {
	var names []string
	for _, v := range k.Vars {
		names = append(names, v.Name)
	}
	e := m.tree(m.Intn(5), len(names))
	m.write(m.written(e, names, m.Intn(2)*10)...)
	return e
}

// tree is an expression of so many variables that is at most so deep.
func (m *maker) tree(deep, vars int) api.Expr {
	if deep <= 1 || m.Intn(8) == 0 {
		if vars > 0 && m.Intn(3) > 0 {
			return api.Expr{Kind: api.EVar, Num: m.Intn(vars)}
		}
		return api.Expr{Kind: api.ENum, Num: m.number()}
	}
	e := api.Expr{Kind: pick(m.Rand, api.ENeg, api.ENot, api.EIf, api.EBin, api.EBin, api.EBin, api.EBin)}
	kids := map[int]int{api.ENeg: 1, api.ENot: 1, api.EBin: 2, api.EIf: 3}[e.Kind]
	if e.Kind == api.EBin {
		e.Num = api.Add + m.Intn(api.Or)
	}
	for range kids {
		e.Kids = append(e.Kids, m.tree(deep-1, vars))
	}
	return e
}

// written is the pieces of e's text, with the brackets that it needs, and, now and then (0: never), with more.
func (m *maker) written(e api.Expr, names []string, more int) []string {
	var l []string
	kid := func(i, least int) []string {
		of := m.written(e.Kids[i], names, more)
		if e.Kids[i].Kind == api.EBin && calc.Strength(e.Kids[i].Num) < least || more > 0 && m.Intn(more) == 0 {
			of = slices.Concat([]string{"("}, of, []string{")"})
		}
		return of
	}
	switch e.Kind {
	case api.ENum:
		l = []string{strconv.Itoa(e.Num)}
	case api.EVar:
		l = []string{names[e.Num]}
	case api.ENeg:
		l = slices.Concat([]string{"-"}, kid(0, 6))
	case api.ENot:
		l = slices.Concat([]string{"!"}, kid(0, 6))
	case api.EBin:
		s := calc.Strength(e.Num)
		l = slices.Concat(kid(0, s), []string{calc.Sign(e.Num)}, kid(1, s+1))
	case api.EIf:
		l = slices.Concat([]string{"if", "("}, kid(0, 0), []string{","}, kid(1, 0), []string{","}, kid(2, 0), []string{")"})
	}
	return l
}

// spaced is the pieces with blanks and comments between them, and the place of each.
func spaced(r *rand.Rand, l []string) (string, []int) {
	var b strings.Builder
	var at []int
	b.WriteString(pick(r, "", " ", "# first\n"))
	for _, s := range l {
		at = append(at, b.Len())
		b.WriteString(s)
		b.WriteString(pick(r, " ", " ", "\n", "\t", "\r\n", "   ", " # ; x\n", "#\n#\n"))
	}
	return b.String(), at
}

// tokens is the pieces as tokens, of whatever kind their first bytes are, at places that are far apart.
func tokens(l ...string) []api.Token {
	var out []api.Token
	for i, s := range l {
		kind := api.TokSign
		switch c := s[0]; {
		case c >= '0' && c <= '9':
			kind = api.TokNumber
		case c >= 'A' && c <= 'Z', c >= 'a' && c <= 'z':
			kind = api.TokName
		}
		out = append(out, api.Token{Kind: kind, Text: s, At: 10 * i})
	}
	return out
}

// signed is l with some of its Words of TokSign: in so many of 10 ones.
func signed(r *rand.Rand, l []api.Token, often int) []api.Token {
	l = slices.Clone(l)
	for i := range l {
		if token.Word(l[i].Text) && r.Intn(10) < often {
			l[i].Kind = api.TokSign
		}
	}
	return l
}

// spoiled is l with a few tokens that are others, more, fewer, or at each other's places.
func spoiled(r *rand.Rand, l []api.Token) []api.Token {
	l = slices.Clone(l)
	others := tokens(strings.Fields("colour place task var when join split in out cancel after many from to int enum pair and xor or if ; : = , ( ) { } .. * + - / % == != < <= && || ! a0 b1 n0 z 0 1 7")...)
	others = append(others, api.Token{Kind: api.TokNumber, Text: "01"}, api.Token{Kind: api.TokName}, api.Token{Kind: 4, Text: ";"}, api.Token{Kind: api.TokSign, Text: "from"}, api.Token{Kind: api.TokName, Text: ";"}, api.Token{Kind: api.TokNumber, Text: "a0"})
	for range r.Intn(3) {
		i := r.Intn(len(l))
		other := pick(r, pick(r, l...), pick(r, others...))
		switch r.Intn(7) {
		case 0:
			l[i] = other
		case 1:
			l = slices.Insert(l, i, other)
		case 2:
			l = slices.Delete(l, i, min(i+1+r.Intn(3), len(l)))
		case 3:
			l = l[:i]
		case 4:
			j := r.Intn(len(l))
			l[i], l[j] = l[j], l[i]
		case 5: // a few of them again, from behind a ; on to the next one
			from := 1 + slices.IndexFunc(l[i:], func(t api.Token) bool { return t.Text == ";" })
			to := 1 + slices.IndexFunc(l[i+from:], func(t api.Token) bool { return t.Text == ";" })
			again := slices.Clone(l[i+from : i+from+to])
			l = slices.Insert(l, i+from+to, again...)
		case 6: // a name that is another one
			other := l[i]
			for _, t := range l[i:] {
				if t.Kind == api.TokName && !token.Word(t.Text) {
					other = t
				}
			}
			for j, t := range l[i:] {
				if t.Kind == api.TokName && !token.Word(t.Text) {
					l[i+j].Text = other.Text
					break
				}
			}
		}
		if len(l) == 0 {
			break
		}
	}
	for i := range l {
		l[i].At = 10 * i
	}
	return l
}
