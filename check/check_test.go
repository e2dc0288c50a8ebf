package check

import (
	"reflect"
	"slices"
	"strconv"
	"strings"
	"testing"

	"baldric/api"
)

// wrongness is something that can be wrong with fine: what it is, of which part, what is told of it, and how the net comes to have it.
type wrongness struct {
	what string
	part api.Part
	err  api.Errno
	turn func(n *api.Net)
}

// oneColour is a colour of the kind CEnum.
func oneColour(name string, members ...string) api.Colour {
	return api.Colour{Name: name, Kind: api.CEnum, Names: members}
}

// fill makes a row so long, by rows that each makes.
func fill[T any](l []T, length int, each func(i int) T) []T {
	for i := len(l); i < length; i++ {
		l = append(l, each(i))
	}
	return l
}

func morePlaces(n *api.Net, length int) {
	n.Places = fill(n.Places, length, func(i int) api.Place { return api.Place{Name: "more" + strconv.Itoa(i)} })
}

func moreTasks(n *api.Net, length int) {
	n.Tasks = fill(n.Tasks, length, func(i int) api.Task {
		t := fine().Tasks[0]
		t.Name = "more" + strconv.Itoa(i)
		return t
	})
}

func moreColours(n *api.Net, length int) {
	n.Colours = fill(n.Colours, length, func(i int) api.Colour { return oneColour("more"+strconv.Itoa(i), "one") })
}

func moreArcs(l []api.Arc, length int) []api.Arc {
	return fill(l, length, func(int) api.Arc { return api.Arc{Place: 1, Expr: num(1)} })
}

// moreVars are variables of which there is one way to bind them.
func moreVars(n *api.Net, l []api.Var, length int) []api.Var {
	n.Colours = append(n.Colours, oneColour("single"+strconv.Itoa(len(n.Colours)), "one"))
	return fill(l, length, func(i int) api.Var { return api.Var{Name: "more" + strconv.Itoa(i), Colour: len(n.Colours) - 1} })
}

// ofNet is what can be wrong with a net beside its rows, in the document's order.
func ofNet() []wrongness {
	part := api.Part{Kind: api.PartNet}
	return []wrongness{
		{"65 places", part, api.ErrFull, func(n *api.Net) { morePlaces(n, 65) }},
		{"65 tasks", part, api.ErrFull, func(n *api.Net) { moreTasks(n, 65) }},
		{"100 places", part, api.ErrFull, func(n *api.Net) { morePlaces(n, 100) }},
		{"from below 0", part, api.ErrNone, func(n *api.Net) { n.From = -1 }},
		{"from behind the last", part, api.ErrNone, func(n *api.Net) { n.From = len(n.Places) }},
		{"from far outside", part, api.ErrNone, func(n *api.Net) { n.From = api.MaxInt }},
		{"to below 0", part, api.ErrNone, func(n *api.Net) { n.To = -1 }},
		{"to behind the last", part, api.ErrNone, func(n *api.Net) { n.To = len(n.Places) }},
		{"to far outside", part, api.ErrNone, func(n *api.Net) { n.To = api.MinInt }},
		{"from is to", part, api.ErrArg, func(n *api.Net) { n.To = n.From }},
	}
}

func ofColours() []wrongness {
	at := func(k int) api.Part { return api.Part{Kind: api.PartColour, At: k} }
	l := []wrongness{
		{"a colour without a name", at(0), api.ErrType, func(n *api.Net) { n.Colours[0].Name = "" }},
		{"a colour's name too long", at(0), api.ErrType, func(n *api.Net) { n.Colours[0].Name = strings.Repeat("n", 33) }},
		{"a Word is a colour's name", at(0), api.ErrType, func(n *api.Net) { n.Colours[0].Name = "enum" }},
		{"a colour of no member", at(0), api.ErrType, func(n *api.Net) { n.Colours[0].Hi = n.Colours[0].Lo - 1 }},
		{"a colour of 1025 members", at(0), api.ErrType, func(n *api.Net) { n.Colours[0].Hi = n.Colours[0].Lo + 1024 }},
		{"a Word is a member's name", at(1), api.ErrType, func(n *api.Net) { n.Colours[1].Names = []string{"red", "and"} }},
		{"a member without a name", at(1), api.ErrType, func(n *api.Net) { n.Colours[1].Names = []string{"red", ""} }},
		{"two members of one name", at(1), api.ErrType, func(n *api.Net) { n.Colours[1].Names = []string{"red", "red"} }},
		{"no members", at(1), api.ErrType, func(n *api.Net) { n.Colours[1].Names = nil }},
		{"a pair of itself", at(2), api.ErrType, func(n *api.Net) { n.Colours[2].First = 2 }},
		{"a pair of none", at(2), api.ErrType, func(n *api.Net) { n.Colours[2].Then = -1 }},
		{"a name that one ahead has", at(2), api.ErrType, func(n *api.Net) { n.Colours[2].Name = n.Colours[0].Name }},
		{"a colour of no kind", at(2), api.ErrType, func(n *api.Net) { n.Colours[2].Kind = 4 }},
		{"33 colours", at(32), api.ErrType, func(n *api.Net) { moreColours(n, 33) }},
		{"40 colours", at(32), api.ErrType, func(n *api.Net) { moreColours(n, 40) }},
	}
	return l
}

func ofPlaces() []wrongness {
	part := api.Part{Kind: api.PartPlace, At: 1}
	turn := func(with func(p *api.Place)) func(n *api.Net) {
		return func(n *api.Net) { with(&n.Places[1]) }
	}
	return []wrongness{
		{"a place without a name", part, api.ErrArg, turn(func(p *api.Place) { p.Name = "" })},
		{"a place's name is none", part, api.ErrArg, turn(func(p *api.Place) { p.Name = "1a" })},
		{"a place's name too long", part, api.ErrArg, turn(func(p *api.Place) { p.Name = strings.Repeat("b", 33) })},
		{"a Word is a place's name", part, api.ErrArg, turn(func(p *api.Place) { p.Name = "place" })},
		{"two places of one name", part, api.ErrTwice, turn(func(p *api.Place) { p.Name = "a" })},
		{"a place of a colour below 0", part, api.ErrNone, turn(func(p *api.Place) { p.Colour = -1 })},
		{"a place of a colour behind the last", part, api.ErrNone, func(n *api.Net) { n.Places[1].Colour = len(n.Colours) }},
		{"a place of a colour far outside", part, api.ErrNone, turn(func(p *api.Place) { p.Colour = api.MaxInt })},
		{"a member below 0", part, api.ErrArg, turn(func(p *api.Place) { p.First = api.Bag{{-1, 1}} })},
		{"a count of 0", part, api.ErrArg, turn(func(p *api.Place) { p.First = api.Bag{{0, 0}, {1, 1}} })},
		{"a count too great", part, api.ErrArg, turn(func(p *api.Place) { p.First = api.Bag{{0, api.MaxCount + 1}} })},
		{"members that fall", part, api.ErrArg, turn(func(p *api.Place) { p.First = api.Bag{{1, 1}, {0, 1}} })},
		{"a member twice", part, api.ErrArg, turn(func(p *api.Place) { p.First = api.Bag{{1, 1}, {1, 1}} })},
		{"a member behind the last", part, api.ErrType, turn(func(p *api.Place) { p.First = api.Bag{{0, 1}, {8, 1}} })},
		{"a member far outside", part, api.ErrType, turn(func(p *api.Place) { p.First = api.Bag{{api.MaxInt, 1}} })},
	}
}

// ofTasks is what can be wrong with a task, each with the second one, where nothing else is said.
func ofTasks() []wrongness {
	part := api.Part{Kind: api.PartTask, At: 1}
	var l []wrongness
	say := func(err api.Errno, what string, with func(t *api.Task)) {
		l = append(l, wrongness{what, part, err, func(n *api.Net) { with(&n.Tasks[1]) }})
	}
	say(api.ErrArg, "a task without a name", func(t *api.Task) { t.Name = "" })
	say(api.ErrArg, "a task's name is none", func(t *api.Task) { t.Name = "_t" })
	say(api.ErrArg, "a task's name too long", func(t *api.Task) { t.Name = strings.Repeat("t", 33) })
	say(api.ErrArg, "a Word is a task's name", func(t *api.Task) { t.Name = "if" })
	say(api.ErrTwice, "two tasks of one name", func(t *api.Task) { t.Name = "s" })
	l = append(l, wrongness{"17 variables", part, api.ErrFull, func(n *api.Net) { n.Tasks[1].Vars = moreVars(n, n.Tasks[1].Vars, 17) }})
	say(api.ErrFull, "17 Ins", func(t *api.Task) { t.Join, t.Ins = api.All, moreArcs(t.Ins, 17) })
	say(api.ErrFull, "17 Outs", func(t *api.Task) { t.Outs = moreArcs(t.Outs, 17) })
	l = append(l, wrongness{"17 places to empty", part, api.ErrFull, func(n *api.Net) {
		morePlaces(n, 20)
		n.Tasks[1].Cancel = fill(nil, 17, func(i int) int { return i })
	}})
	ofVariables(say)
	say(api.ErrFull, "1032 ways to bind", func(t *api.Task) {
		// x, y and z have 64.
		t.Vars = append(t.Vars, api.Var{Name: "k", Colour: 2}, api.Var{Name: "l", Colour: 2}, api.Var{Name: "m", Colour: 1})
	})
	ofExpressions(say)
	say(api.ErrNone, "a place to empty below 0", func(t *api.Task) { t.Cancel = []int{-1} })
	say(api.ErrNone, "a place to empty far outside", func(t *api.Task) { t.Cancel = []int{0, api.MaxInt} })
	say(api.ErrNone, "no place to empty, twice", func(t *api.Task) { t.Cancel = []int{99, 99} })
	say(api.ErrTwice, "a place to empty twice", func(t *api.Task) { t.Cancel = []int{1, 0, 1} })
	ofModes(say)
	return l
}

func ofVariables(say func(api.Errno, string, func(t *api.Task))) {
	say(api.ErrArg, "a variable without a name", func(t *api.Task) { t.Vars[1].Name = "" })
	say(api.ErrArg, "a variable's name too long", func(t *api.Task) { t.Vars[1].Name = strings.Repeat("y", 33) })
	say(api.ErrArg, "a Word is a variable's name", func(t *api.Task) { t.Vars[1].Name = "var" })
	say(api.ErrTwice, "two variables of one name", func(t *api.Task) { t.Vars[1].Name = "x" })
	say(api.ErrNone, "a variable of a colour below 0", func(t *api.Task) { t.Vars[1].Colour = -1 })
	say(api.ErrNone, "a variable of a colour far outside", func(t *api.Task) { t.Vars[1].Colour = api.MaxInt })
	say(api.ErrArg, "a Word is the last variable's name", func(t *api.Task) { t.Vars[2].Name = "or" })
	say(api.ErrNone, "the last variable's colour is none", func(t *api.Task) { t.Vars[2].Colour = 77 })
}

func ofExpressions(say func(api.Errno, string, func(t *api.Task))) {
	say(api.ErrArg, "a guard of no kind", func(t *api.Task) { t.Guard = api.Expr{} })
	say(api.ErrArg, "a guard of a variable too many", func(t *api.Task) { t.Guard = vari(len(t.Vars)) })
	say(api.ErrArg, "a guard too deep", func(t *api.Task) { t.Guard = deep(api.MaxDeep + 1) })
	say(api.ErrArg, "a guard too great", func(t *api.Task) { t.Guard = long(api.MaxSize + 1) })
	say(api.ErrArg, "no Ins", func(t *api.Task) { t.Ins = nil })
	say(api.ErrArg, "no Outs", func(t *api.Task) { t.Outs = []api.Arc{} })
	arcs := map[string]func(t *api.Task) []api.Arc{
		"Ins":  func(t *api.Task) []api.Arc { t.Ins = moreArcs(t.Ins, 2); return t.Ins },
		"Outs": func(t *api.Task) []api.Arc { t.Outs = moreArcs(t.Outs, 2); return t.Outs },
	}
	for _, row := range []string{"Ins", "Outs"} {
		l := arcs[row]
		say(api.ErrNone, row+" below 0", func(t *api.Task) { l(t)[0].Place = -1 })
		say(api.ErrNone, row+" far outside", func(t *api.Task) { l(t)[0].Place = api.MaxInt })
		say(api.ErrArg, row+" of no kind", func(t *api.Task) { l(t)[0].Expr.Kind = 7 })
		say(api.ErrArg, row+" of a variable too many", func(t *api.Task) { l(t)[0].Expr = vari(99) })
		say(api.ErrArg, row+" too deep", func(t *api.Task) { l(t)[0].Expr = deep(api.MaxDeep + 1) })
		say(api.ErrNone, "the second of "+row+" outside", func(t *api.Task) { l(t)[1].Place = 99 })
		say(api.ErrArg, "the second of "+row+" without kids", func(t *api.Task) { l(t)[1].Expr = of(api.ENeg, 0) })
	}
}

func ofModes(say func(api.Errno, string, func(t *api.Task))) {
	say(api.ErrMode, "no join", func(t *api.Task) { t.Join = 0 })
	say(api.ErrMode, "a join of no kind", func(t *api.Task) { t.Join = 4 })
	say(api.ErrMode, "no split", func(t *api.Task) { t.Split = 0 })
	say(api.ErrMode, "a split of no kind", func(t *api.Task) { t.Split = 4 })
	say(api.ErrMode, "a join far outside", func(t *api.Task) { t.Join = api.MinInt })
	say(api.ErrMode, "five Ins, of which some are chosen", func(t *api.Task) { t.Join, t.Ins = api.Some, moreArcs(t.Ins, 5) })
	say(api.ErrMode, "five Outs, of which some are chosen", func(t *api.Task) { t.Split, t.Outs = api.Some, moreArcs(t.Outs, 5) })
	say(api.ErrMode, "after below 0", func(t *api.Task) { t.After = -1 })
	say(api.ErrMode, "after too much", func(t *api.Task) { t.After = api.MaxAfter + 1 })
	for _, m := range [][3]int{{0, 1, 1}, {1, 0, 1}, {1, 1, 0}, {1, 1, 2}, {2, 1, 1}, {1, 17, 1}, {17, 17, 17}, {0, 0, 1}, {-1, 1, 1}, {1, 3, -1}, {api.MinInt, api.MaxInt, 5}} {
		say(api.ErrMode, "many of wrong numbers", func(t *api.Task) { t.Many = m })
	}
}

func allWrong() []wrongness {
	return slices.Concat(ofNet(), ofColours(), ofPlaces(), ofTasks())
}

// P8.1, P8.2, P8.3: a net that is well formed, and each thing that can be wrong with it alone.
func TestOneFault(t *testing.T) {
	if part, err := Net(fine()); part != (api.Part{}) || err != api.OK {
		t.Fatalf("%+v, %v", part, err)
	}
	for _, x := range allWrong() {
		n := fine()
		x.turn(&n)
		if part, err := Net(n); part != x.part || err != x.err {
			t.Errorf("%s: %+v, %v", x.what, part, err)
		}
		for k := range n.Places {
			want := api.OK
			if x.part == (api.Part{Kind: api.PartPlace, At: k}) {
				want = x.err
			}
			// Where the colours can't stand together, none of them has members.
			if x.part.Kind == api.PartColour && !strings.HasPrefix(x.what, "a Word") && len(n.Places[k].First) > 0 {
				want = api.ErrType
			}
			if err := Place(n, k); err != want {
				t.Errorf("%s: place %d: %v", x.what, k, err)
			}
		}
		for k := range n.Tasks {
			want := api.OK
			if x.part == (api.Part{Kind: api.PartTask, At: k}) || x.part.Kind == api.PartColour {
				want = x.err
			}
			if err := Task(n, k); err != want {
				t.Errorf("%s: task %d: %v", x.what, k, err)
			}
		}
	}
}

// P8.1, P8.2, P8.3, W4: of two things that are wrong the first one is told, whichever came first.
func TestTwoFaults(t *testing.T) {
	l := allWrong()
	tried := 0
	for j, b := range l {
		for _, a := range l[:j] {
			n, m := fine(), fine()
			a.turn(&n)
			b.turn(&n)
			b.turn(&m)
			a.turn(&m)
			// What one does to what the other did may take that away.
			if !reflect.DeepEqual(n, m) {
				continue
			}
			tried++
			if part, err := Net(n); part != a.part || err != a.err {
				t.Errorf("%s, and %s: %+v, %v", a.what, b.what, part, err)
			}
			alike := a.part.Kind == b.part.Kind
			if err := Place(n, a.part.At); alike && a.part.Kind == api.PartPlace && err != a.err {
				t.Errorf("%s, and %s: %v", a.what, b.what, err)
			}
			if err := Task(n, a.part.At); alike && a.part.Kind == api.PartTask && err != a.err {
				t.Errorf("%s, and %s: %v", a.what, b.what, err)
			}
		}
	}
	if tried < 3000 {
		t.Errorf("%d tried", tried)
	}
}

// neighbours is two errors each that stand next to one another, both of which the net has that the turn makes.
func neighbours() []wrongness {
	var l []wrongness
	say := func(kind, at int, err api.Errno, what string, turn func(n *api.Net)) {
		l = append(l, wrongness{what, api.Part{Kind: kind, At: at}, err, turn})
	}
	say(api.PartNet, 0, api.ErrFull, "65 places, from none", func(n *api.Net) { morePlaces(n, 65); n.From = 65 })
	say(api.PartNet, 0, api.ErrFull, "65 tasks, to none", func(n *api.Net) { moreTasks(n, 65); n.To = -1 })
	say(api.PartNet, 0, api.ErrNone, "from and to one that is none", func(n *api.Net) { n.From, n.To = 4, 4 })
	say(api.PartNet, 0, api.ErrNone, "from and to -1", func(n *api.Net) { n.From, n.To = -1, -1 })
	say(api.PartNet, 0, api.ErrArg, "from is to, a colour", func(n *api.Net) { n.From = n.To; n.Colours[0].Name = "to" })
	say(api.PartColour, 0, api.ErrType, "a Word, then no kind", func(n *api.Net) { n.Colours[0].Name = "to"; n.Colours[1].Kind = 0 })
	say(api.PartColour, 1, api.ErrType, "a Word within, then no kind", func(n *api.Net) { n.Colours[1].Names[0] = "or"; n.Colours[2].Kind = 0 })
	say(api.PartColour, 0, api.ErrType, "no kind, then a Word", func(n *api.Net) { n.Colours[0].Kind = 0; n.Colours[1].Name = "to" })
	say(api.PartColour, 2, api.ErrType, "a colour, a place", func(n *api.Net) { n.Colours[2].Name = "in"; n.Places[0].Name = "in" })
	say(api.PartPlace, 3, api.ErrArg, "a place, a task", func(n *api.Net) { n.Places[3].Name = "in"; n.Tasks[0].Name = "in" })
	say(api.PartPlace, 1, api.ErrType, "a place, a place", func(n *api.Net) { n.Places[1].First[0][0] = 8; n.Places[2].Name = "" })
	say(api.PartTask, 0, api.ErrMode, "a task, a task", func(n *api.Net) { n.Tasks[0].Join = 0; n.Tasks[1].Name = "" })
	place := func(err api.Errno, what string, with func(p *api.Place)) {
		say(api.PartPlace, 1, err, what, func(n *api.Net) { with(&n.Places[1]) })
	}
	place(api.ErrTwice, "a name twice, no colour", func(p *api.Place) { p.Name, p.Colour = "a", 3 })
	place(api.ErrNone, "no colour, no bag", func(p *api.Place) { p.Colour, p.First = 3, api.Bag{{0, 0}} })
	place(api.ErrNone, "no colour, no member", func(p *api.Place) { p.Colour, p.First = -1, api.Bag{{0, 1}} })
	place(api.ErrArg, "no bag, no member", func(p *api.Place) { p.First = api.Bag{{9, 1}, {8, 1}} })
	place(api.ErrArg, "no member, then no bag", func(p *api.Place) { p.First = api.Bag{{9, 1}, {10, 0}} })
	return append(l, taskNeighbours()...)
}

func taskNeighbours() []wrongness {
	var l []wrongness
	say := func(err api.Errno, what string, with func(t *api.Task)) {
		l = append(l, wrongness{what, api.Part{Kind: api.PartTask, At: 1}, err, func(n *api.Net) { with(&n.Tasks[1]) }})
	}
	say(api.ErrTwice, "a name twice, 17 Outs", func(t *api.Task) { t.Name, t.Outs = "s", moreArcs(nil, 17) })
	say(api.ErrFull, "17 Outs, a variable's name", func(t *api.Task) { t.Vars[0].Name, t.Outs = "", moreArcs(nil, 17) })
	say(api.ErrFull, "17 variables of no name", func(t *api.Task) { t.Vars = make([]api.Var, 17) })
	say(api.ErrArg, "two variables of one wrong name", func(t *api.Task) { t.Vars[0].Name, t.Vars[1].Name = "or", "or" })
	say(api.ErrTwice, "a variable twice, of no colour", func(t *api.Task) { t.Vars[1] = api.Var{Name: "x", Colour: -1} })
	say(api.ErrNone, "a variable of no colour, one of no name", func(t *api.Task) { t.Vars[0].Colour, t.Vars[1].Name = 3, "" })
	say(api.ErrTwice, "a variable twice, one of no name", func(t *api.Task) { t.Vars[1].Name, t.Vars[2].Name = "x", "" })
	say(api.ErrTwice, "a variable twice, too many ways", func(t *api.Task) { t.Vars = manyWays("x", "x") })
	say(api.ErrArg, "a variable's name, too many ways", func(t *api.Task) { t.Vars = manyWays("x", "if") })
	say(api.ErrFull, "too many ways, a guard", func(t *api.Task) { t.Vars, t.Guard = manyWays("x", "y"), api.Expr{} })
	say(api.ErrFull, "too many ways, no Ins", func(t *api.Task) { t.Vars, t.Ins = manyWays("x", "y"), nil })
	say(api.ErrArg, "a guard, a place that is none", func(t *api.Task) { t.Guard.Kind, t.Ins[0].Place = 0, 4 })
	say(api.ErrArg, "no Ins, a place of Outs that is none", func(t *api.Task) { t.Ins, t.Outs[0].Place = nil, 4 })
	say(api.ErrArg, "no Outs, a place of Ins that is none", func(t *api.Task) { t.Outs, t.Ins[0].Place = nil, 4 })
	say(api.ErrNone, "a place, an expression", func(t *api.Task) { t.Ins[0] = api.Arc{Place: 4} })
	say(api.ErrArg, "an expression, then a place", func(t *api.Task) { t.Ins[0].Expr.Kind, t.Ins[1].Place = 0, 4 })
	say(api.ErrNone, "a place, then an expression", func(t *api.Task) { t.Ins[0].Place, t.Ins[1].Expr.Kind = 4, 0 })
	say(api.ErrArg, "an expression of Ins, a place of Outs", func(t *api.Task) { t.Ins[2].Expr.Kind, t.Outs[0].Place = 0, 4 })
	say(api.ErrNone, "a place of Ins, an expression of Outs", func(t *api.Task) { t.Ins[2].Place, t.Outs[0].Expr.Kind = 4, 0 })
	say(api.ErrNone, "a place of Outs, its expression", func(t *api.Task) { t.Outs[1] = api.Arc{Place: -1} })
	say(api.ErrArg, "an expression of Outs, a place to empty", func(t *api.Task) { t.Outs[1].Expr.Kind, t.Cancel[0] = 0, 4 })
	say(api.ErrNone, "no place, twice", func(t *api.Task) { t.Cancel = []int{4, 4} })
	say(api.ErrNone, "no place, then one twice", func(t *api.Task) { t.Cancel = []int{4, 1, 1} })
	say(api.ErrTwice, "a place twice, then none", func(t *api.Task) { t.Cancel = []int{1, 1, 4} })
	say(api.ErrTwice, "a place twice, a join", func(t *api.Task) { t.Cancel, t.Join = []int{1, 1}, 0 })
	say(api.ErrNone, "no place, many", func(t *api.Task) { t.Cancel, t.Many = []int{4}, [3]int{3, 2, 1} })
	return l
}

// manyWays is variables that can be bound in 8^4 ways, the first two of these names.
func manyWays(a, b string) []api.Var {
	return []api.Var{{Name: a, Colour: 2}, {Name: b, Colour: 2}, {Name: "z", Colour: 2}, {Name: "k", Colour: 2}}
}

// P8.1, P8.2, P8.3, W4
func TestNeighbours(t *testing.T) {
	for _, x := range neighbours() {
		n := fine()
		x.turn(&n)
		if part, err := Net(n); part != x.part || err != x.err {
			t.Errorf("%s: %+v, %v", x.what, part, err)
		}
		if err := Place(n, x.part.At); x.part.Kind == api.PartPlace && err != x.err {
			t.Errorf("%s: %v", x.what, err)
		}
		if err := Task(n, x.part.At); x.part.Kind == api.PartTask && err != x.err {
			t.Errorf("%s: %v", x.what, err)
		}
	}
}

// P8.2, P8.3: a name that is none, and that one ahead has, is told as none.
func TestWrongNameTwice(t *testing.T) {
	n := fine()
	n.Places[0].Name, n.Places[1].Name, n.Tasks[0].Name, n.Tasks[1].Name = "or", "or", "", ""
	for k, want := range []api.Errno{api.ErrArg, api.ErrArg, api.OK, api.OK} {
		if err := Place(n, k); err != want {
			t.Errorf("place %d: %v", k, err)
		}
	}
	for k, want := range []api.Errno{api.ErrArg, api.ErrArg, api.OK} {
		if err := Task(n, k); err != want {
			t.Errorf("task %d: %v", k, err)
		}
	}
	if part, err := Net(n); part != (api.Part{Kind: api.PartPlace}) || err != api.ErrArg {
		t.Errorf("%+v, %v", part, err)
	}
}

// P8.2, P8.3: a place, or a task, that there is none of, and a task beside colours that are wrong.
func TestNoSuchPart(t *testing.T) {
	good, bad := fine(), fine()
	bad.Colours[1].Names[0] = "when"
	for _, n := range []api.Net{good, bad, {}} {
		for _, k := range []int{-1, len(n.Places), len(n.Places) + 1, api.MinInt, api.MaxInt} {
			if err := Place(n, k); err != api.ErrNone {
				t.Errorf("place %d: %v", k, err)
			}
		}
		for _, k := range []int{-1, len(n.Tasks), len(n.Tasks) + 1, api.MinInt, api.MaxInt} {
			if err := Task(n, k); err != api.ErrNone || Binds(n, k) != 0 {
				t.Errorf("task %d: %v, %d", k, err, Binds(n, k))
			}
		}
	}
	bad.Tasks[0].Name = "if"
	for k := range bad.Tasks {
		if err := Task(bad, k); err != api.ErrType {
			t.Errorf("task %d: %v", k, err)
		}
	}
	bad = fine()
	bad.Places, bad.From = nil, 9
	if err := Task(bad, 0); err != api.ErrNone {
		t.Errorf("a task without places: %v", err)
	}
	if err := Place(fine(), 1); err != api.OK {
		t.Errorf("%v", err)
	}
}

// P8.1: a net without places has no place to begin.
func TestNothing(t *testing.T) {
	if part, err := Net(api.Net{}); part != (api.Part{Kind: api.PartNet}) || err != api.ErrNone {
		t.Errorf("%+v, %v", part, err)
	}
	two := api.Net{Colours: []api.Colour{oneColour("c", "k")}, Places: []api.Place{{Name: "a"}, {Name: "b"}}, To: 1}
	if part, err := Net(two); part != (api.Part{}) || err != api.OK {
		t.Errorf("%+v, %v", part, err)
	}
	two.Colours = nil
	if part, err := Net(two); part != (api.Part{Kind: api.PartPlace}) || err != api.ErrNone {
		t.Errorf("%+v, %v", part, err)
	}
}

// nameAll gives a part of each kind that name.
func nameAll(n *api.Net, name string) {
	n.Colours[0].Name, n.Colours[1].Names[0], n.Places[2].Name = name, name, name
	n.Tasks[1].Name, n.Tasks[1].Vars[0].Name = name, name
}

// leastColour makes the first colour as great as may be, from the least number on.
func leastColour(n *api.Net) {
	n.Colours[0].Lo, n.Colours[0].Hi, n.Colours[2].Then = api.MinInt, api.MinInt+1023, 1
	n.Places[0].First, n.Places[1].First = api.Bag{{1023, 1}}, nil
	n.Tasks = n.Tasks[:1]
}

// P8.1, P8.2, P8.3: what is at a limit is fine.
func TestAtTheLimit(t *testing.T) {
	for what, turn := range map[string]func(n *api.Net){
		"64 places":    func(n *api.Net) { morePlaces(n, 64); n.From, n.To = 63, 0 },
		"64 tasks":     func(n *api.Net) { moreTasks(n, 64) },
		"32 colours":   func(n *api.Net) { moreColours(n, 32); n.Places[0].Colour, n.Places[0].First = 31, api.Bag{{0, 1}} },
		"16 variables": func(n *api.Net) { n.Tasks[1].Vars = moreVars(n, n.Tasks[1].Vars, 16); n.Tasks[1].Guard = vari(15) },
		"no variables": func(n *api.Net) { n.Tasks[2].Vars, n.Tasks[2].Guard, n.Tasks[2].Ins[0].Expr = nil, num(0), num(7) },
		"16 Ins":       func(n *api.Net) { n.Tasks[1].Join, n.Tasks[1].Ins = api.One, moreArcs(nil, 16) },
		"16 Outs":      func(n *api.Net) { n.Tasks[1].Split, n.Tasks[1].Outs = api.All, moreArcs(nil, 16) },
		"16 to empty": func(n *api.Net) {
			morePlaces(n, 16)
			n.Tasks[1].Cancel = fill(nil, 16, func(i int) int { return 15 - i })
		},
		"four Ins, some":  func(n *api.Net) { n.Tasks[1].Join, n.Tasks[1].Ins = api.Some, moreArcs(nil, 4) },
		"four Outs, some": func(n *api.Net) { n.Tasks[1].Split, n.Tasks[1].Outs = api.Some, moreArcs(nil, 4) },
		"1024 ways": func(n *api.Net) {
			n.Tasks[1].Vars = append(n.Tasks[1].Vars, api.Var{Name: "k", Colour: 2}, api.Var{Name: "l", Colour: 1})
		},
		"after nothing":    func(n *api.Net) { n.Tasks[1].After = 0 },
		"after the most":   func(n *api.Net) { n.Tasks[1].After = api.MaxAfter },
		"1024 members":     leastColour,
		"long names":       func(n *api.Net) { nameAll(n, strings.Repeat("xor_", 8)) },
		"one letter":       func(n *api.Net) { nameAll(n, "Z") },
		"nearly a Word":    func(n *api.Net) { nameAll(n, "Colour") },
		"a Word's front":   func(n *api.Net) { nameAll(n, "ta") },
		"a Word, and more": func(n *api.Net) { nameAll(n, "or0") },
		"names of others": func(n *api.Net) {
			n.Colours[0].Name, n.Colours[1].Names[0], n.Places[2].Name, n.Tasks[1].Name = "x", "x", "x", "x"
		},
		"members at ends": func(n *api.Net) { n.Places[1].First = api.Bag{{0, 1}, {7, api.MaxCount}} },
		"no tokens":       func(n *api.Net) { n.Places[0].First, n.Places[1].First = nil, api.Bag{} },
		"a deep guard":    func(n *api.Net) { n.Tasks[1].Guard = deep(api.MaxDeep) },
		"a great guard":   func(n *api.Net) { n.Tasks[1].Guard = long(api.MaxSize - 1) },
		"a guard of 0":    func(n *api.Net) { n.Tasks[1].Guard = num(0) },
		"deep arcs": func(n *api.Net) {
			n.Tasks[1].Ins[0].Expr, n.Tasks[1].Outs[0].Expr = deep(api.MaxDeep), deep(api.MaxDeep)
		},
		"arcs there, back": func(n *api.Net) { n.Tasks[1].Ins[0].Place, n.Tasks[1].Outs[0].Place = 3, 3 },
		"names elsewhere": func(n *api.Net) {
			n.Colours[0].Names, n.Colours[2].Names = []string{"or", "", ""}, []string{"or", "or"}
		},
		"to ahead of from":  func(n *api.Net) { n.From, n.To = 3, 0 },
		"many of one":       func(n *api.Net) { n.Tasks[1].Many = [3]int{1, 1, 1} },
		"many of the most":  func(n *api.Net) { n.Tasks[1].Many = [3]int{16, 16, 16} },
		"many from 1 to 16": func(n *api.Net) { n.Tasks[1].Many = [3]int{1, 16, 1} },
		"more suffice":      func(n *api.Net) { n.Tasks[1].Many = [3]int{1, 2, 2} },
		"less suffice":      func(n *api.Net) { n.Tasks[1].Many = [3]int{2, 2, 1} },
		"many of zeroes":    func(n *api.Net) { n.Tasks[1].Many = [3]int{} },
	} {
		n := fine()
		turn(&n)
		if part, err := Net(n); part != (api.Part{}) || err != api.OK {
			t.Errorf("%s: %+v, %v", what, part, err)
		}
		for k := range n.Places {
			if err := Place(n, k); err != api.OK {
				t.Errorf("%s: place %d: %v", what, k, err)
			}
		}
		for k := range n.Tasks {
			if err := Task(n, k); err != api.OK {
				t.Errorf("%s: task %d: %v", what, k, err)
			}
		}
	}
}

// P8.1, P8.2, P8.3: no Word is the name of a part.
func TestWords(t *testing.T) {
	l := strings.Fields(words)
	if len(l) != 21 {
		t.Fatal(l)
	}
	for _, s := range l {
		for i, turn := range []func(n *api.Net){
			func(n *api.Net) { n.Colours[2].Name = s },
			func(n *api.Net) { n.Colours[1].Names[1] = s },
			func(n *api.Net) { n.Places[2].Name = s },
			func(n *api.Net) { n.Tasks[2].Name = s },
			func(n *api.Net) { n.Tasks[2].Vars[0].Name = s },
		} {
			n := fine()
			turn(&n)
			want := []fault{
				{api.Part{Kind: api.PartColour, At: 2}, api.ErrType}, {api.Part{Kind: api.PartColour, At: 1}, api.ErrType},
				{api.Part{Kind: api.PartPlace, At: 2}, api.ErrArg}, {api.Part{Kind: api.PartTask, At: 2}, api.ErrArg}, {api.Part{Kind: api.PartTask, At: 2}, api.ErrArg},
			}[i]
			if part, err := Net(n); part != want.part || err != want.err {
				t.Errorf("%s: %+v, %v", s, part, err)
			}
		}
	}
}

// P8.3: all numbers of instances near the bounds.
func TestMany(t *testing.T) {
	l := []int{-1, 0, 1, 2, 3, 15, 16, 17, 18}
	for _, a := range l {
		for _, b := range l {
			for _, c := range l {
				n := fine()
				n.Tasks[1].Many = [3]int{a, b, c}
				want := api.ErrMode
				if a == 0 && b == 0 && c == 0 || 1 <= a && a <= b && b <= 16 && 1 <= c && c <= b {
					want = api.OK
				}
				if err := Task(n, 1); err != want {
					t.Errorf("%d, %d, %d: %v", a, b, c, err)
				}
			}
		}
	}
}

// P8.3: so many arcs beside each kind of join and split.
func TestJoins(t *testing.T) {
	for kind := -1; kind <= 5; kind++ {
		for arcs := 1; arcs <= 16; arcs++ {
			want := api.ErrMode
			if kind == api.All || kind == api.One || kind == api.Some && arcs <= 4 {
				want = api.OK
			}
			joined, split := fine(), fine()
			joined.Tasks[2].Join, joined.Tasks[2].Ins = kind, moreArcs(nil, arcs)
			split.Tasks[2].Split, split.Tasks[2].Outs = kind, moreArcs(nil, arcs)
			if a, b := Task(joined, 2), Task(split, 2); a != want || b != want {
				t.Errorf("%d arcs, kind %d: %v, %v", arcs, kind, a, b)
			}
		}
	}
}
