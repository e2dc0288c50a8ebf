package check

import (
	"math/rand"
	"reflect"
	"slices"
	"strconv"
	"strings"

	"baldric/api"
	"baldric/bag"
	"baldric/colour"
)

func num(n int) api.Expr  { return api.Expr{Kind: api.ENum, Num: n} }
func vari(n int) api.Expr { return api.Expr{Kind: api.EVar, Num: n} }
func of(kind, n int, kids ...api.Expr) api.Expr {
	return api.Expr{Kind: kind, Num: n, Kids: kids}
}

// deep is an expression of that Depth, long one of that odd Size.
func deep(n int) api.Expr {
	e := num(1)
	for range n - 1 {
		e = of(api.ENeg, 0, e)
	}
	return e
}

func long(n int) api.Expr {
	if n == 1 {
		return num(1)
	}
	half := (n - 1) / 4 * 2
	return of(api.EBin, api.Add, long(half+1), long(n-2-half))
}

// pick is one of these.
func pick[T any](r *rand.Rand, l ...T) T { return l[r.Intn(len(l))] }

// words is what no part may be named.
const words = "colour place task var when join split in out cancel after many from to int enum pair and xor or if"

// fine is a net that is well formed, with each kind of colour and each clause.
func fine() api.Net {
	return api.Net{
		Colours: []api.Colour{
			{Name: "n", Kind: api.CInt, Lo: 3, Hi: 6},
			{Name: "c", Kind: api.CEnum, Names: []string{"red", "blue"}},
			{Name: "p", Kind: api.CPair, First: 1, Then: 0},
		},
		Places: []api.Place{
			{Name: "a", Colour: 0, First: api.Bag{{0, 2}, {3, 1}}},
			{Name: "b", Colour: 2, First: api.Bag{{7, api.MaxCount}}},
			{Name: "d", Colour: 1},
			{Name: "e", Colour: 0},
		},
		Tasks: []api.Task{
			{
				Name: "s", Guard: num(1), Join: api.All, Split: api.All,
				Ins: []api.Arc{{Place: 0, Expr: num(2)}}, Outs: []api.Arc{{Place: 3, Expr: num(0)}},
			},
			{
				Name: "t", Vars: []api.Var{{Name: "x", Colour: 0}, {Name: "y", Colour: 1}, {Name: "z", Colour: 2}},
				Guard: of(api.EIf, 0, of(api.EBin, api.Lt, vari(0), num(3)), of(api.ENot, 0, vari(1)), vari(2)),
				Join:  api.Some, Split: api.One,
				Ins:    []api.Arc{{Place: 0, Expr: vari(0)}, {Place: 1, Expr: of(api.EBin, api.Add, vari(2), num(1))}, {Place: 0, Expr: vari(1)}},
				Outs:   []api.Arc{{Place: 2, Expr: vari(1)}, {Place: 3, Expr: of(api.ENeg, 0, vari(0))}},
				Cancel: []int{2, 0}, After: 5, Many: [3]int{1, 3, 2},
			},
			{
				Name: "u", Vars: []api.Var{{Name: "x", Colour: 1}}, Guard: vari(0), Join: api.One, Split: api.Some,
				Ins: []api.Arc{{Place: 2, Expr: vari(0)}}, Outs: []api.Arc{{Place: 0, Expr: num(1)}},
			},
		},
		From: 0, To: 3,
	}
}

// maker makes nets that are well formed, in which no number is below 0.
type maker struct {
	*rand.Rand
	net api.Net
}

func madeNet(r *rand.Rand) api.Net {
	m := &maker{Rand: r}
	for range 1 + r.Intn(4) {
		m.colour()
	}
	for range 2 + r.Intn(6) {
		m.place()
	}
	for range r.Intn(5) {
		m.net.Tasks = append(m.net.Tasks, m.task())
	}
	m.net.From = r.Intn(len(m.net.Places))
	m.net.To = (m.net.From + 1 + r.Intn(len(m.net.Places)-1)) % len(m.net.Places)
	return m.net
}

// name is one that differs from that of another number.
func (m *maker) name(n int) string {
	return pick(m.Rand, "a", "n", "Z", "in_", "xor", "x_Y", strings.Repeat("o", api.MaxName-2)) + strconv.Itoa(n)
}

func (m *maker) colour() {
	at := len(m.net.Colours)
	c := api.Colour{Name: m.name(at), Kind: pick(m.Rand, api.CInt, api.CEnum, api.CPair)}
	if at == 0 && c.Kind == api.CPair {
		c.Kind = api.CInt
	}
	switch c.Kind {
	case api.CInt:
		c.Lo = pick(m.Rand, 0, 1, m.Intn(1000), api.MaxInt-api.MaxMembers)
		c.Hi = c.Lo + pick(m.Rand, 0, 1, 2, m.Intn(10), api.MaxMembers-1)
	case api.CEnum:
		for i := range 1 + m.Intn(4) {
			c.Names = append(c.Names, m.name(i))
		}
	case api.CPair:
		c.First, c.Then = m.Intn(at), m.Intn(at)
	}
	if l := append(m.net.Colours, c); colour.Right(l) {
		m.net.Colours = l
	} else {
		m.colour()
	}
}

func (m *maker) place() {
	p := api.Place{Name: m.name(len(m.net.Places)), Colour: m.Intn(len(m.net.Colours))}
	size := colour.Size(m.net.Colours, p.Colour)
	var l []int
	for range m.Intn(5) {
		l = append(l, pick(m.Rand, 0, size-1, m.Intn(size)))
	}
	p.First = bag.Of(l...)
	m.net.Places = append(m.net.Places, p)
}

func (m *maker) task() api.Task {
	t := api.Task{Name: m.name(len(m.net.Tasks)), Join: 1 + m.Intn(3), Split: 1 + m.Intn(3), After: pick(m.Rand, 0, 1, m.Intn(100), api.MaxAfter)}
	for ways, i := 1, 0; i < m.Intn(5); i++ {
		v := api.Var{Name: m.name(i), Colour: m.Intn(len(m.net.Colours))}
		if ways *= colour.Size(m.net.Colours, v.Colour); ways > api.MaxBinds {
			break
		}
		t.Vars = append(t.Vars, v)
	}
	t.Guard = pick(m.Rand, num(1), m.expr(4, len(t.Vars)))
	t.Ins, t.Outs = m.arcs(t.Join, len(t.Vars)), m.arcs(t.Split, len(t.Vars))
	for _, p := range m.Perm(len(m.net.Places))[:m.Intn(3)] {
		t.Cancel = append(t.Cancel, p)
	}
	if m.Intn(2) == 0 {
		most := 1 + m.Intn(api.MaxMany)
		t.Many = [3]int{1 + m.Intn(most), most, 1 + m.Intn(most)}
	}
	return t
}

func (m *maker) arcs(kind, vars int) []api.Arc {
	most := 7
	if kind == api.Some {
		most = api.MaxSome
	}
	var l []api.Arc
	for range 1 + m.Intn(most) {
		l = append(l, api.Arc{Place: m.Intn(len(m.net.Places)), Expr: m.expr(3, vars)})
	}
	return l
}

func (m *maker) expr(deep, vars int) api.Expr {
	kid := func() api.Expr { return m.expr(deep-1, vars) }
	which := m.Intn(8)
	switch {
	case deep > 1 && which == 0:
		return of(pick(m.Rand, api.ENeg, api.ENot), 0, kid())
	case deep > 1 && which == 1:
		return of(api.EIf, 0, kid(), kid(), kid())
	case deep > 1 && which < 5:
		return of(api.EBin, 1+m.Intn(api.Or), kid(), kid())
	case vars > 0 && which < 7:
		return vari(m.Intn(vars))
	}
	return num(pick(m.Rand, 0, 1, m.Intn(20), api.MaxInt))
}

// loose makes nets of which nothing is sure, but that their numbers and names are often ones that may be.
type loose struct{ *rand.Rand }

func rows[T any](m loose, each func() T) []T {
	var l []T
	for range m.Intn(4) {
		l = append(l, each())
	}
	return l
}

func (m loose) name() string {
	return pick(m.Rand, "a", "b", "n", "x", "y", "a", "b", "n", "x", "y", "", "?", "task", "or", "_a", "0", strings.Repeat("n", api.MaxName+1))
}

func (m loose) number() int {
	return pick(m.Rand, 0, 0, 0, 1, 1, 1, 2, 2, 3, 4, 5, -1, 12, api.MaxAfter+1, api.MaxInt, api.MinInt, m.Int())
}

func (m loose) expr(deep int) api.Expr {
	e := api.Expr{Kind: m.Intn(8), Num: m.number()}
	if deep > 1 {
		e.Kids = rows(m, func() api.Expr { return m.expr(deep - 1) })
	}
	return e
}

func (m loose) colour() api.Colour {
	return api.Colour{Name: m.name(), Kind: m.number(), Lo: m.number(), Hi: m.number(), Names: rows(m, m.name), First: m.number(), Then: m.number()}
}

func (m loose) place() api.Place {
	return api.Place{Name: m.name(), Colour: m.number(), First: rows(m, func() [2]int { return [2]int{m.number(), m.number()} })}
}

func (m loose) arc() api.Arc { return api.Arc{Place: m.number(), Expr: m.expr(2)} }

func (m loose) task() api.Task {
	return api.Task{
		Name: m.name(), Vars: rows(m, func() api.Var { return api.Var{Name: m.name(), Colour: m.number()} }),
		Guard: pick(m.Rand, num(1), m.expr(3)), Join: m.number(), Split: m.number(),
		Ins: rows(m, m.arc), Outs: rows(m, m.arc), Cancel: rows(m, m.number), After: m.number(),
		Many: [3]int{m.number(), m.number(), m.number()},
	}
}

func (m loose) net() api.Net {
	return api.Net{Colours: rows(m, m.colour), Places: rows(m, m.place), Tasks: rows(m, m.task), From: m.number(), To: m.number()}
}

// spoiled is a net that was well formed ahead of a few changes, each of one number, text or row.
func (m loose) spoiled() api.Net {
	n := madeNet(m.Rand)
	for range m.Intn(4) {
		part := pick(m.Rand, partsOf(&n)...)
		values := others(part)
		if part.Kind() != reflect.Slice && m.Intn(2) == 0 {
			alike := func(v reflect.Value) bool { return v.Kind() != part.Kind() }
			values = slices.DeleteFunc(partsOf(&n), alike)
		}
		part.Set(pick(m.Rand, values...).Convert(part.Type()))
	}
	if len(n.Tasks) > 0 && m.Intn(8) == 0 {
		t := &n.Tasks[m.Intn(len(n.Tasks))]
		for range m.Intn(api.MaxVars + 2) {
			t.Vars = append(t.Vars, api.Var{Name: "v" + strconv.Itoa(len(t.Vars)), Colour: m.Intn(len(n.Colours))})
		}
	}
	return n
}
