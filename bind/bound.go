package bind

import (
	"iter"
	"slices"

	"baldric/api"
	"baldric/bag"
	"baldric/colour"
	"baldric/expr"
)

// set is what a colour's members count as: so many numbers from the first on.
type set struct {
	first int
	size  int
}

func (s set) has(m int) bool { return m >= 0 && m < s.size }

// member is the one that counts as n.
func (s set) member(n int) (int, bool) {
	// Asked before subtracting, which could go round.
	if n < s.first || n > s.first+(s.size-1) {
		return 0, false
	}
	return n - s.first, true
}

// subject is a net, and what of its colours is known.
type subject struct {
	net  api.Net
	sets map[int]set
}

func about(n api.Net) subject { return subject{n, map[int]set{}} }

// set is that of the colour k, which is asked once, since colour goes over all colours each time.
func (s subject) set(k int) set {
	known, is := s.sets[k]
	if !is {
		first, _ := colour.Number(s.net.Colours, k, 0)
		known = set{first, colour.Size(s.net.Colours, k)}
		s.sets[k] = known
	}
	return known
}

func (s subject) isTask(k int) bool { return k >= 0 && k < len(s.net.Tasks) }

// bound is a task whose variables have members, and what these count as.
type bound struct {
	subject
	api.Task
	env []int
}

func (s subject) bind(task int, vars []int) (bound, api.Errno) {
	if !s.isTask(task) {
		return bound{}, api.ErrNone
	}
	t := s.net.Tasks[task]
	if len(vars) != len(t.Vars) {
		return bound{}, api.ErrArg
	}
	env := make([]int, len(vars))
	for i, v := range t.Vars {
		c := s.set(v.Colour)
		if !c.has(vars[i]) {
			return bound{}, api.ErrArg
		}
		env[i] = c.first + vars[i]
	}
	return bound{s, t, env}, api.OK
}

// bases is how many members each variable of a task can have.
func (s subject) bases(task int) []int {
	var l []int
	for _, v := range s.net.Tasks[task].Vars {
		l = append(l, s.set(v.Colour).size)
	}
	return l
}

// modes goes through those of a task that can be done where the tokens are m.
func (s subject) modes(m api.Marking, task int) iter.Seq[api.Mode] {
	return func(yield func(api.Mode) bool) {
		if !s.isTask(task) {
			return
		}
		bases := s.bases(task)
		if ways := product(bases); ways < 1 || ways > api.MaxBinds {
			return
		}
		for vars := range digits(bases) {
			b, _ := s.bind(task, vars)
			ins, outs := b.choices(m)
			for _, in := range ins {
				for _, out := range outs {
					if !yield(api.Mode{Task: task, Vars: copyOf(vars), Ins: copyOf(in), Outs: copyOf(out)}) {
						return
					}
				}
			}
		}
	}
}

// choices is those of the join, and of the split, that can be taken; each of the one goes with each of the other.
func (b bound) choices(m api.Marking) ([][]int, [][]int) {
	ins, outs := Choices(b.Join, len(b.Ins)), Choices(b.Split, len(b.Outs))
	if len(ins) == 0 || len(outs) == 0 || b.guard() != api.OK {
		return nil, nil
	}
	taken := b.tokens(b.Ins)
	ins = slices.DeleteFunc(ins, func(which []int) bool { return b.takes(m, taken, which) != api.OK })
	if len(ins) == 0 {
		return nil, nil
	}
	given := b.tokens(b.Outs)
	outs = slices.DeleteFunc(outs, func(which []int) bool {
		_, err := b.together(given, which)
		return err != api.OK
	})
	return ins, outs
}

// guard tells why the task may not be done so.
func (b bound) guard() api.Errno {
	n, err := expr.Eval(b.Guard, b.env)
	if err == api.OK && n == 0 {
		return api.ErrGuard
	}
	return err
}

// token is what goes over an arc: a member of its place's colour, or the error that there is in its stead.
type token struct {
	place  int
	member int
	err    api.Errno
}

func (b bound) tokens(arcs []api.Arc) []token {
	l := make([]token, len(arcs))
	for i, a := range arcs {
		l[i] = b.token(a)
	}
	return l
}

func (b bound) token(a api.Arc) token {
	n, err := expr.Eval(a.Expr, b.env)
	if err != api.OK {
		return token{err: err}
	}
	if a.Place < 0 || a.Place >= len(b.net.Places) {
		return token{err: api.ErrType}
	}
	m, is := b.set(b.net.Places[a.Place].Colour).member(n)
	if !is {
		return token{err: api.ErrType}
	}
	return token{place: a.Place, member: m}
}

// together is the tokens at the places which of l, each in its own place of the net.
func (b bound) together(l []token, which []int) (api.Marking, api.Errno) {
	for _, k := range which {
		if k < 0 || k >= len(l) {
			return nil, api.ErrMode
		}
		if l[k].err != api.OK {
			return nil, l[k].err
		}
	}
	m := make(api.Marking, len(b.net.Places))
	for _, k := range which {
		at := l[k].place
		sum, err := bag.Sum(m[at], bag.Of(l[k].member))
		if err != api.OK {
			return nil, err
		}
		m[at] = sum
	}
	return m, api.OK
}

// takes tells why the tokens at the places which of l can't be taken from m.
func (b bound) takes(m api.Marking, l []token, which []int) api.Errno {
	need, err := b.together(l, which)
	if err != api.OK {
		return err
	}
	if !slices.EqualFunc(need, m, bag.Within) {
		return api.ErrToken
	}
	if b.Join == api.Some && b.more(m, l, which) {
		return api.ErrMode
	}
	return api.OK
}

// more tells whether one token that is not among which could be taken beside these.
func (b bound) more(m api.Marking, l []token, which []int) bool {
	for k := range l {
		if slices.Contains(which, k) {
			continue
		}
		need, err := b.together(l, slices.Concat(which, []int{k}))
		if err == api.OK && slices.EqualFunc(need, m, bag.Within) {
			return true
		}
	}
	return false
}
