package check

import (
	"slices"
	"sort"

	"baldric/api"
	"baldric/bag"
	"baldric/colour"
	"baldric/expr"
	"baldric/token"
)

// ask tells an error, if what it asks about is wrong.
type ask func() api.Errno

// tells is the ask that tells err of what is wrong.
func tells(err api.Errno, wrong func() bool) ask {
	return func() api.Errno {
		if wrong() {
			return err
		}
		return api.OK
	}
}

// first is the first error that one of the row tells.
func first(row ...ask) api.Errno {
	for _, a := range row {
		if err := a(); err != api.OK {
			return err
		}
	}
	return api.OK
}

// each asks the same about so many rows, one after another.
func each(rows int, fault func(i int) api.Errno) ask {
	return func() api.Errno {
		for i := range rows {
			if err := fault(i); err != api.OK {
				return err
			}
		}
		return api.OK
	}
}

// named asks whether the name of the row i is free, and whether none ahead has it.
func named(i int, name func(i int) string) ask {
	return func() api.Errno {
		return first(
			tells(api.ErrArg, func() bool { return !free(name(i)) }),
			tells(api.ErrTwice, func() bool {
				for ahead := range i {
					if name(ahead) == name(i) {
						return true
					}
				}
				return false
			}),
		)
	}
}

// free tells whether a part may have the name s.
func free(s string) bool { return colour.Name(s) && !token.Word(s) }

// wrongColour is the first one that is wrong; how many there are, if none is.
func wrongColour(l []api.Colour) int {
	// What stands behind a wrong one makes none of them right again.
	right := sort.Search(len(l), func(k int) bool { return !colour.Right(l[:k+1]) })
	for k, c := range l[:right] {
		if !free(c.Name) || c.Kind == api.CEnum && slices.ContainsFunc(c.Names, func(s string) bool { return !free(s) }) {
			return k
		}
	}
	return right
}

// subject is a net that is asked about, and how many members each of its colours has.
type subject struct {
	api.Net
	sizes []int
}

func about(n api.Net) subject {
	s := subject{n, make([]int, len(n.Colours))}
	for k := range s.sizes {
		s.sizes[k] = colour.Size(n.Colours, k)
	}
	return s
}

// whole is what is wrong with the net beside its rows.
func (n subject) whole() api.Errno {
	return first(
		tells(api.ErrFull, func() bool { return len(n.Places) > api.MaxPlaces || len(n.Tasks) > api.MaxTasks }),
		tells(api.ErrNone, func() bool { return !n.isPlace(n.From) || !n.isPlace(n.To) }),
		tells(api.ErrArg, func() bool { return n.From == n.To }),
	)
}

func (n subject) isPlace(k int) bool { return within(k, len(n.Places)) }

func (n subject) isColour(k int) bool { return within(k, len(n.Colours)) }

// place is what is wrong with a place that there is.
func (n subject) place(k int) api.Errno {
	p := n.Places[k]
	return first(
		named(k, func(i int) string { return n.Places[i].Name }),
		tells(api.ErrNone, func() bool { return !n.isColour(p.Colour) }),
		tells(api.ErrArg, func() bool { return !bag.Right(p.First) }),
		// Members rise: none is greater than the last.
		tells(api.ErrType, func() bool { return len(p.First) > 0 && p.First[len(p.First)-1][0] >= n.sizes[p.Colour] }),
	)
}

// task is what is wrong with a task that there is.
func (n subject) task(k int) api.Errno {
	t := n.Tasks[k]
	vars := len(t.Vars)
	return first(
		named(k, func(i int) string { return n.Tasks[i].Name }),
		tells(api.ErrFull, func() bool {
			return vars > api.MaxVars || max(len(t.Ins), len(t.Outs), len(t.Cancel)) > api.MaxArcs
		}),
		each(vars, func(i int) api.Errno { return n.variable(t.Vars, i) }),
		tells(api.ErrFull, func() bool { return n.binds(t.Vars) > api.MaxBinds }),
		tells(api.ErrArg, func() bool { return !expr.Right(t.Guard, vars) }),
		tells(api.ErrArg, func() bool { return len(t.Ins) == 0 || len(t.Outs) == 0 }),
		each(len(t.Ins), func(i int) api.Errno { return n.arc(t.Ins[i], vars) }),
		each(len(t.Outs), func(i int) api.Errno { return n.arc(t.Outs[i], vars) }),
		each(len(t.Cancel), func(i int) api.Errno { return n.cancel(t.Cancel, i) }),
		tells(api.ErrMode, func() bool { return !chosen(t.Join, len(t.Ins)) || !chosen(t.Split, len(t.Outs)) }),
		tells(api.ErrMode, func() bool { return t.After < 0 || t.After > api.MaxAfter || !several(t.Many) }),
	)
}

// variable is what is wrong with the variable i of a task that has these.
func (n subject) variable(l []api.Var, i int) api.Errno {
	return first(
		named(i, func(i int) string { return l[i].Name }),
		tells(api.ErrNone, func() bool { return !n.isColour(l[i].Colour) }),
	)
}

// binds is in how many ways the variables can have members, or one more than MaxBinds.
func (n subject) binds(l []api.Var) int {
	ways := 1
	for _, v := range l {
		if !n.isColour(v.Colour) {
			return 0
		}
		ways = min(ways*n.sizes[v.Colour], api.MaxBinds+1)
	}
	return ways
}

// arc is what is wrong with an arc of a task of so many variables.
func (n subject) arc(a api.Arc, vars int) api.Errno {
	return first(
		tells(api.ErrNone, func() bool { return !n.isPlace(a.Place) }),
		tells(api.ErrArg, func() bool { return !expr.Right(a.Expr, vars) }),
	)
}

// cancel is what is wrong with the row i of the places that a task empties.
func (n subject) cancel(l []int, i int) api.Errno {
	return first(
		tells(api.ErrNone, func() bool { return !n.isPlace(l[i]) }),
		tells(api.ErrTwice, func() bool { return slices.Contains(l[:i], l[i]) }),
	)
}

// chosen tells whether a join, or split, of that kind may be beside so many arcs.
func chosen(kind, arcs int) bool {
	switch kind {
	case api.All, api.One:
		return true
	case api.Some:
		return arcs <= api.MaxSome
	}
	return false
}

// several tells whether a task may have so many instances at least and at most, of which so many suffice.
func several(m [3]int) bool {
	least, most, enough := m[0], m[1], m[2]
	return m == [3]int{} || 1 <= least && least <= most && most <= api.MaxMany && 1 <= enough && enough <= most
}
