package bind

import (
	"cmp"
	"math/rand"
	"slices"
	"strconv"

	"baldric/api"
	"baldric/bag"
	"baldric/expr"
)

// second tells what the calls have to of nets that are well formed, by trying all that there is, over tokens that are laid out one by one.
type second struct{}

var told second

// numbers is what the members of a colour count as, in order.
func (s second) numbers(n api.Net, k int) []int {
	var l []int
	switch c := n.Colours[k]; c.Kind {
	case api.CInt:
		for x := c.Lo; ; x++ {
			l = append(l, x)
			if x == c.Hi {
				break
			}
		}
	case api.CEnum:
		for i := range c.Names {
			l = append(l, i)
		}
	case api.CPair:
		for range s.numbers(n, c.First) {
			for range s.numbers(n, c.Then) {
				l = append(l, len(l))
			}
		}
	}
	return l
}

func (s second) env(n api.Net, task int, vars []int) ([]int, api.Errno) {
	if task < 0 || task > len(n.Tasks)-1 {
		return nil, api.ErrNone
	}
	if len(vars) != len(n.Tasks[task].Vars) {
		return nil, api.ErrArg
	}
	var env []int
	for i, v := range n.Tasks[task].Vars {
		l := s.numbers(n, v.Colour)
		if vars[i] < 0 || vars[i] > len(l)-1 {
			return nil, api.ErrArg
		}
		env = append(env, l[vars[i]])
	}
	return env, api.OK
}

// moved is how many tokens there are of each place and member.
func (s second) moved(n api.Net, arcs []api.Arc, env, which []int) (map[[2]int]int, api.Errno) {
	all := map[[2]int]int{}
	for _, k := range which {
		if !slices.Contains(upTo(len(arcs)), k) {
			return nil, api.ErrMode
		}
		x, err := expr.Eval(arcs[k].Expr, env)
		if err != api.OK {
			return nil, err
		}
		member := slices.Index(s.numbers(n, n.Places[arcs[k].Place].Colour), x)
		if member < 0 {
			return nil, api.ErrType
		}
		all[[2]int{arcs[k].Place, member}]++
	}
	for _, count := range all {
		if count > 1<<20 {
			return nil, api.ErrFull
		}
	}
	return all, api.OK
}

// marking is rows of the tokens.
func (s second) marking(n api.Net, all map[[2]int]int) api.Marking {
	m := make(api.Marking, len(n.Places))
	for at, count := range all {
		m[at[0]] = append(m[at[0]], [2]int{at[1], count})
	}
	for _, b := range m {
		slices.SortFunc(b, func(x, y [2]int) int { return cmp.Compare(x[0], y[0]) })
	}
	return m
}

func (s second) needs(n api.Net, o api.Mode) (api.Marking, api.Errno) {
	env, err := s.env(n, o.Task, o.Vars)
	if err != api.OK {
		return nil, err
	}
	all, err := s.moved(n, n.Tasks[o.Task].Ins, env, o.Ins)
	if err != api.OK {
		return nil, err
	}
	return s.marking(n, all), api.OK
}

func (s second) gives(n api.Net, o api.Mode) (api.Marking, api.Errno) {
	if _, err := s.env(n, o.Task, o.Vars); err != api.OK {
		return nil, err
	}
	turned := api.Net{Colours: n.Colours, Places: n.Places, Tasks: slices.Clone(n.Tasks)}
	turned.Tasks[o.Task].Ins = n.Tasks[o.Task].Outs
	return s.needs(turned, api.Mode{Task: o.Task, Vars: o.Vars, Ins: o.Outs})
}

// fits tells whether the tokens are all in m.
func (s second) fits(all map[[2]int]int, m api.Marking) bool {
	for at, count := range all {
		there := 0
		for _, row := range m[at[0]] {
			if row[0] == at[1] {
				there = row[1]
			}
		}
		if there < count {
			return false
		}
	}
	return true
}

// takes tells whether a join, or split, of that kind takes these of so many arcs.
func (s second) takes(kind, arcs int, which []int) bool {
	rising := true
	for i, k := range which {
		rising = rising && k >= 0 && k < arcs && (i == 0 || which[i-1] < k)
	}
	switch kind {
	case api.All:
		return rising && len(which) == arcs && arcs <= 16
	case api.One:
		return rising && len(which) == 1 && arcs <= 16
	case api.Some:
		return rising && len(which) > 0 && arcs <= 4
	}
	return false
}

func (s second) check(n api.Net, m api.Marking, o api.Mode) api.Errno {
	env, err := s.env(n, o.Task, o.Vars)
	if err != api.OK {
		return err
	}
	t := n.Tasks[o.Task]
	if x, err := expr.Eval(t.Guard, env); err != api.OK {
		return err
	} else if x == 0 {
		return api.ErrGuard
	}
	if !s.takes(t.Join, len(t.Ins), o.Ins) || !s.takes(t.Split, len(t.Outs), o.Outs) {
		return api.ErrMode
	}
	all, err := s.moved(n, t.Ins, env, o.Ins)
	if err != api.OK {
		return err
	}
	if !s.fits(all, m) {
		return api.ErrToken
	}
	for k := range t.Ins {
		if t.Join != api.Some || slices.Contains(o.Ins, k) {
			continue
		}
		if more, err := s.moved(n, t.Ins, env, append([]int{k}, o.Ins...)); err == api.OK && s.fits(more, m) {
			return api.ErrMode
		}
	}
	_, err = s.moved(n, t.Outs, env, o.Outs)
	return err
}

// subsets is all rising rows of places, by the bits that they are.
func (s second) subsets(places int) [][]int {
	l := [][]int{nil}
	for at := range places {
		for _, row := range slices.Clone(l) {
			l = append(l, append(slices.Clone(row), at))
		}
	}
	return l
}

// tuples is all rows of members of a task's variables.
func (s second) tuples(n api.Net, l []api.Var) [][]int {
	if len(l) == 0 {
		return [][]int{nil}
	}
	var all [][]int
	for m := range s.numbers(n, l[0].Colour) {
		for _, row := range s.tuples(n, l[1:]) {
			all = append(all, append([]int{m}, row...))
		}
	}
	return all
}

// modes tries all rows of members, and all of arcs.
func (s second) modes(n api.Net, m api.Marking, task int) []api.Mode {
	var l []api.Mode
	t := n.Tasks[task]
	for _, vars := range s.tuples(n, t.Vars) {
		for _, ins := range s.subsets(len(t.Ins)) {
			for _, outs := range s.subsets(len(t.Outs)) {
				if o := (api.Mode{Task: task, Vars: vars, Ins: ins, Outs: outs}); s.check(n, m, o) == api.OK {
					l = append(l, o)
				}
			}
		}
	}
	return l
}

func (s second) all(n api.Net, m api.Marking) []api.Mode {
	var l []api.Mode
	for task := range n.Tasks {
		l = append(l, s.modes(n, m, task)...)
	}
	return l
}

// upTo is the numbers from 0 on, so many.
func upTo(n int) []int {
	var l []int
	for i := range n {
		l = append(l, i)
	}
	return l
}

// alike tells whether two modes have the same parts.
func alike(a, b api.Mode) bool {
	return a.Task == b.Task && slices.Equal(a.Vars, b.Vars) && slices.Equal(a.Ins, b.Ins) && slices.Equal(a.Outs, b.Outs)
}

func allAlike(a, b []api.Mode) bool { return slices.EqualFunc(a, b, alike) }

// sameRows tells whether two markings have the same rows.
func sameRows(a, b api.Marking) bool {
	return slices.EqualFunc(a, b, func(x, y api.Bag) bool { return slices.Equal(x, y) })
}

func num(n int) api.Expr  { return api.Expr{Kind: api.ENum, Num: n} }
func vari(n int) api.Expr { return api.Expr{Kind: api.EVar, Num: n} }
func of(kind, n int, kids ...api.Expr) api.Expr {
	return api.Expr{Kind: kind, Num: n, Kids: kids}
}

// pick is one of these.
func pick[T any](r *rand.Rand, l ...T) T { return l[r.Intn(len(l))] }

// made makes small nets that are well formed, markings that are right, and modes that often can be.
type made struct{ *rand.Rand }

func (r made) colour(l []api.Colour) api.Colour {
	c := api.Colour{Name: "c" + strconv.Itoa(len(l)), Kind: pick(r.Rand, api.CInt, api.CInt, api.CEnum)}
	if len(l) > 0 && r.Intn(3) == 0 {
		c.Kind = api.CPair
	}
	// What does not count for the kind may be anything.
	c.Lo = pick(r.Rand, 0, 0, 1, -1, 3, api.MinInt, api.MaxInt-2)
	c.Hi = c.Lo + r.Intn(3)
	c.Names = []string{"red", "blue", "green"}[:1+r.Intn(3)]
	c.First, c.Then = pick(r.Rand, 0, 5), 7
	if c.Kind == api.CPair {
		c.First, c.Then = r.Intn(len(l)), r.Intn(len(l))
	}
	return c
}

func (r made) net() api.Net {
	var n api.Net
	for range 1 + r.Intn(3) {
		n.Colours = append(n.Colours, r.colour(n.Colours))
	}
	for i := range 2 + r.Intn(3) {
		n.Places = append(n.Places, api.Place{Name: "p" + strconv.Itoa(i), Colour: r.Intn(len(n.Colours))})
	}
	for i := range 1 + r.Intn(2) {
		n.Tasks = append(n.Tasks, r.task(n, i))
	}
	n.To = 1
	return n
}

func (r made) task(n api.Net, at int) api.Task {
	t := api.Task{Name: "t" + strconv.Itoa(at), Guard: num(pick(r.Rand, 1, 1, 1, -5, 0)), Join: 1 + r.Intn(3), Split: 1 + r.Intn(3)}
	ways := 1
	for i := range r.Intn(4) {
		k := r.Intn(len(n.Colours))
		if ways *= len(told.numbers(n, k)); ways > 30 {
			break
		}
		t.Vars = append(t.Vars, api.Var{Name: "x" + strconv.Itoa(i), Colour: k})
	}
	if r.Intn(3) == 0 {
		t.Guard = r.expr(n, t.Vars, r.Intn(len(n.Colours)))
	}
	t.Ins, t.Outs = r.arcs(n, t.Vars), r.arcs(n, t.Vars)
	return t
}

func (r made) arcs(n api.Net, vars []api.Var) []api.Arc {
	var l []api.Arc
	for range 1 + r.Intn(4) {
		p := r.Intn(len(n.Places))
		l = append(l, api.Arc{Place: p, Expr: r.expr(n, vars, n.Places[p].Colour)})
	}
	return l
}

// expr is one that often comes to a member of that colour.
func (r made) expr(n api.Net, vars []api.Var, k int) api.Expr {
	e := num(pick(r.Rand, told.numbers(n, k)...))
	if len(vars) > 0 && r.Intn(2) == 0 {
		e = vari(r.Intn(len(vars)))
	}
	for i, v := range vars {
		if v.Colour == k && r.Intn(2) == 0 {
			e = vari(i)
		}
	}
	switch r.Intn(12) {
	case 0:
		return of(api.EBin, pick(r.Rand, api.Add, api.Sub, api.Div, api.Rem, api.Eq, api.Lt), e, num(r.Intn(3)))
	case 1:
		return of(api.EBin, pick(r.Rand, api.Add, api.Sub, api.Div, api.Mul), num(1), e)
	case 2:
		return of(api.EIf, 0, e, e, num(pick(r.Rand, told.numbers(n, k)...)))
	case 3:
		return of(pick(r.Rand, api.ENeg, api.ENot), 0, e)
	}
	return e
}

// marking is a right one of n.
func (r made) marking(n api.Net) api.Marking {
	m := make(api.Marking, len(n.Places))
	few := r.Intn(3)
	for i, p := range n.Places {
		for member := range told.numbers(n, p.Colour) {
			if r.Intn(3) <= few {
				m[i] = append(m[i], [2]int{member, pick(r.Rand, 1, 1, 1, 2, 3, api.MaxCount)})
			}
		}
	}
	return m
}

// more is m, and perhaps a few tokens.
func (r made) more(n api.Net, m api.Marking) api.Marking {
	l := make(api.Marking, len(m))
	for i := range m {
		l[i] = slices.Clone(m[i])
		if sum, err := bag.Sum(m[i], r.marking(n)[i]); err == api.OK && r.Intn(3) > 0 {
			l[i] = sum
		}
	}
	return l
}

// which is some of so many arcs, or of others.
func (r made) which(arcs int) []int {
	switch r.Intn(6) {
	case 0:
		return upTo(arcs)
	case 1, 2:
		return []int{r.Intn(arcs)}
	case 3:
		var l []int
		for range r.Intn(4) {
			l = append(l, pick(r.Rand, 0, 0, 1, 1, 2, 3, -1, 4, api.MaxInt, api.MinInt))
		}
		return l
	}
	return pick(r.Rand, told.subsets(arcs)...)
}

// mode is one that often can be done.
func (r made) mode(n api.Net) api.Mode {
	o := api.Mode{Task: r.Intn(len(n.Tasks))}
	t := n.Tasks[o.Task]
	o.Vars = pick(r.Rand, told.tuples(n, t.Vars)...)
	o.Ins, o.Outs = r.which(len(t.Ins)), r.which(len(t.Outs))
	switch r.Intn(12) {
	case 0:
		o.Task = pick(r.Rand, -1, len(n.Tasks), api.MaxInt, api.MinInt, r.Intn(len(n.Tasks)))
	case 1:
		o.Vars = append(o.Vars, 0)
	case 2:
		o.Vars = o.Vars[:max(0, len(o.Vars)-1)]
	case 3:
		if len(o.Vars) > 0 {
			o.Vars[r.Intn(len(o.Vars))] = pick(r.Rand, -1, 1, 2, 3, 4, 9, api.MaxInt, api.MinInt)
		}
	}
	return o
}
