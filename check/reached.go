package check

import (
	"baldric/api"
)

// Reached is the places and the tasks of n that can be come to.
func Reached(n api.Net) ([]int, []int) {
	w := walk{places: make([]bool, len(n.Places)), tasks: make([]bool, len(n.Tasks))}
	w.come(n.From)
	for k, p := range n.Places {
		if len(p.First) > 0 {
			w.come(k)
		}
	}
	takers := takersOf(n)
	for len(w.open) > 0 {
		last := len(w.open) - 1
		place := w.open[last]
		w.open = w.open[:last]
		for _, k := range takers[place] {
			w.do(n.Tasks[k], k)
		}
	}
	return numbers(w.places), numbers(w.tasks)
}

// walk is what was come to so far, and the places whose tasks were not looked at yet.
type walk struct {
	places, tasks []bool
	open          []int
}

func (w *walk) come(place int) {
	if within(place, len(w.places)) && !w.places[place] {
		w.places[place] = true
		w.open = append(w.open, place)
	}
}

func (w *walk) do(t api.Task, k int) {
	if w.tasks[k] {
		return
	}
	w.tasks[k] = true
	for _, a := range t.Outs {
		w.come(a.Place)
	}
}

// takersOf is the tasks that may take tokens from each place, which may stand there more than once.
func takersOf(n api.Net) [][]int {
	l := make([][]int, len(n.Places))
	for k, t := range n.Tasks {
		for _, a := range t.Ins {
			if within(a.Place, len(l)) {
				l[a.Place] = append(l[a.Place], k)
			}
		}
	}
	return l
}

// numbers is where in l it holds.
func numbers(l []bool) []int {
	var where []int
	for k, is := range l {
		if is {
			where = append(where, k)
		}
	}
	return where
}
