package check

import (
	"fmt"
	"math/rand"
	"reflect"
	"runtime"
	"slices"
	"strconv"
	"strings"
	"testing"
	"unsafe"

	"baldric/api"
	"baldric/expr"
	"baldric/parse"
	"baldric/print"
)

// withVars is a net of one task whose variables have those colours, of which the colour k has 2^k members.
func withVars(l ...int) api.Net {
	var n api.Net
	for k := range 11 {
		n.Colours = append(n.Colours, api.Colour{Name: "n" + strconv.Itoa(k), Kind: api.CInt, Hi: 1<<k - 1})
	}
	n.Tasks = make([]api.Task, 1)
	for i, k := range l {
		n.Tasks[0].Vars = append(n.Tasks[0].Vars, api.Var{Name: "x" + strconv.Itoa(i), Colour: k})
	}
	return n
}

// P8.4
func TestBinds(t *testing.T) {
	for _, x := range []struct {
		vars []int
		want int
	}{
		{nil, 1}, {[]int{0}, 1}, {[]int{1}, 2}, {[]int{10}, 1024}, {[]int{1, 2, 3}, 64}, {[]int{3, 7}, 1024}, {[]int{10, 0, 0}, 1024},
		{[]int{10, 1}, 1025}, {[]int{1, 10}, 1025}, {[]int{6, 6}, 1025}, {[]int{10, 10, 10, 10, 10, 10, 10, 10}, 1025}, {slices.Repeat([]int{10}, 1000), 1025},
		{slices.Repeat([]int{0}, 1000), 1}, {slices.Repeat([]int{1}, 10), 1024}, {slices.Repeat([]int{1}, 64), 1025}, {slices.Repeat([]int{2}, 32), 1025},
		{[]int{11}, 0}, {[]int{-1}, 0}, {[]int{api.MaxInt}, 0}, {[]int{10, 10, 11}, 0}, {[]int{-1, 10, 10}, 0}, {[]int{1, api.MinInt, 2}, 0},
	} {
		if ways := Binds(withVars(x.vars...), 0); ways != x.want {
			t.Errorf("%v: %d", x.vars, ways)
		}
	}
	odd := api.Net{Colours: []api.Colour{
		{Name: "n", Kind: api.CInt, Lo: -1, Hi: 1}, {Name: "m", Kind: api.CInt, Lo: 1, Hi: 341}, {Name: "k", Kind: api.CInt, Lo: 1, Hi: 342},
	}}
	odd.Tasks = []api.Task{{Vars: []api.Var{{Colour: 0}, {Colour: 1}}}, {Vars: []api.Var{{Colour: 0}, {Colour: 2}}}, {}}
	for k, want := range []int{1023, 1025, 1} {
		if ways := Binds(odd, k); ways != want {
			t.Errorf("%d: %d", k, ways)
		}
	}
	for _, k := range []int{-1, 3, api.MinInt, api.MaxInt} {
		if ways := Binds(odd, k); ways != 0 {
			t.Errorf("%d: %d", k, ways)
		}
	}
	// Colours that can't stand together have no members; Words are names of members nevertheless.
	odd.Colours[0].Name = "or"
	if ways := Binds(odd, 0); ways != 1023 {
		t.Errorf("%d", ways)
	}
	odd.Colours[2].Kind = 0
	for k, want := range []int{0, 0, 1} {
		if ways := Binds(odd, k); ways != want {
			t.Errorf("%d: %d", k, ways)
		}
	}
}

func arcs(places ...int) []api.Arc {
	var l []api.Arc
	for _, p := range places {
		l = append(l, api.Arc{Place: p})
	}
	return l
}

// flow is a net of so many places, each of whose tasks takes from the one and gives to the other places.
func flow(places, from int, tasks ...[2][]int) api.Net {
	n := api.Net{Places: make([]api.Place, places), From: from}
	for _, x := range tasks {
		n.Tasks = append(n.Tasks, api.Task{Ins: arcs(x[0]...), Outs: arcs(x[1]...), Cancel: []int{0, 1, 2, 3}})
	}
	return n
}

// P8.4: also of a place that one task has more than one arc of, and of one that there is none.
func TestTakersAndGivers(t *testing.T) {
	n := flow(4, 0, [2][]int{{0, 1, 0}, {2, 2}}, [2][]int{{1}, {0, 1}}, [2][]int{{}, {}}, [2][]int{{0}, {1, 0, 1}})
	for place, want := range [][2][]int{{{0, 3}, {1, 3}}, {{0, 1}, {1, 3}}, {nil, {0}}, {nil, nil}} {
		if l := Takers(n, place); !slices.Equal(l, want[0]) {
			t.Errorf("takers of %d: %v", place, l)
		}
		if l := Givers(n, place); !slices.Equal(l, want[1]) {
			t.Errorf("givers of %d: %v", place, l)
		}
	}
	for _, place := range []int{-1, 4, 5, api.MinInt, api.MaxInt} {
		if a, b := Takers(n, place), Givers(n, place); len(a)+len(b) != 0 {
			t.Errorf("%d: %v, %v", place, a, b)
		}
	}
	if a, b := Takers(api.Net{}, 0), Givers(api.Net{}, 0); len(a)+len(b) != 0 {
		t.Errorf("%v, %v", a, b)
	}
	// Limits and faults of other parts do not count.
	long := flow(70, 0, slices.Repeat([][2][]int{{slices.Repeat([]int{69}, 20), {68}}}, 70)...)
	if a, b := Takers(long, 69), Givers(long, 68); len(a) != 70 || len(b) != 70 || a[69] != 69 || b[69] != 69 {
		t.Errorf("%v, %v", a, b)
	}
}

// P8.5
func TestReached(t *testing.T) {
	for _, x := range []struct {
		what          string
		net           api.Net
		places, tasks []int
	}{
		{"nothing", api.Net{}, nil, nil},
		{"one place", flow(1, 0), []int{0}, nil},
		{"one, where a case does not begin", flow(1, 1), nil, nil},
		{"a chain", flow(4, 0, [2][]int{{0}, {1}}, [2][]int{{1}, {2}}, [2][]int{{2}, {3}}), []int{0, 1, 2, 3}, []int{0, 1, 2}},
		{"a chain told backwards", flow(4, 3, [2][]int{{1}, {0}}, [2][]int{{2}, {1}}, [2][]int{{3}, {2}}), []int{0, 1, 2, 3}, []int{0, 1, 2}},
		{"a chain from its middle", flow(4, 1, [2][]int{{0}, {1}}, [2][]int{{1}, {2}}, [2][]int{{2}, {3}}), []int{1, 2, 3}, []int{1, 2}},
		{"a ring", flow(3, 2, [2][]int{{0}, {1}}, [2][]int{{1}, {2}}, [2][]int{{2}, {0}}), []int{0, 1, 2}, []int{0, 1, 2}},
		{"one of Ins is enough", flow(4, 0, [2][]int{{3, 0}, {1}}, [2][]int{{3, 2}, {0, 2}}), []int{0, 1}, []int{0}},
		{"all of Outs", flow(4, 0, [2][]int{{0}, {3, 1, 3}}), []int{0, 1, 3}, []int{0}},
		{"no Ins", flow(3, 0, [2][]int{{}, {1}}), []int{0}, nil},
		{"no Outs", flow(3, 0, [2][]int{{0}, {}}), []int{0}, []int{0}},
		{"two tasks of one place", flow(3, 0, [2][]int{{0}, {1}}, [2][]int{{0}, {1}}, [2][]int{{0, 0}, {2, 0}}), []int{0, 1, 2}, []int{0, 1, 2}},
		{"from below 0", flow(2, -1, [2][]int{{0}, {1}}), nil, nil},
		{"from behind the last", flow(2, 2, [2][]int{{2}, {1}}), nil, nil},
		{"from far outside", flow(2, api.MaxInt, [2][]int{{api.MaxInt}, {1}}), nil, nil},
		{"arcs whose place is none", flow(2, 0, [2][]int{{2, 0}, {-1, 2, api.MaxInt, api.MinInt}}, [2][]int{{2}, {1}}, [2][]int{{-1}, {1}}), []int{0}, []int{0}},
	} {
		if places, tasks := Reached(x.net); !slices.Equal(places, x.places) || !slices.Equal(tasks, x.tasks) {
			t.Errorf("%s: %v, %v", x.what, places, tasks)
		}
	}
	n := flow(5, 9, [2][]int{{2}, {0}}, [2][]int{{4}, {3}}, [2][]int{{1}, {1}})
	n.Places[2].First = api.Bag{{0, 1}}
	n.Places[4].First = api.Bag{{-1, 0}}
	n.Places[1].First = api.Bag{}
	if places, tasks := Reached(n); !slices.Equal(places, []int{0, 2, 3, 4}) || !slices.Equal(tasks, []int{0, 1}) {
		t.Errorf("rows of First: %v, %v", places, tasks)
	}
	// What is at its end, what it empties, and what its expressions are, does not count.
	n = flow(3, 0, [2][]int{{1}, {2}})
	n.To, n.Tasks[0].Cancel = 1, []int{0, 1, 2}
	if places, tasks := Reached(n); !slices.Equal(places, []int{0}) || len(tasks) != 0 {
		t.Errorf("To: %v, %v", places, tasks)
	}
}

// span is where memory begins and ends.
type span [2]uintptr

func spanOf(l []int) span {
	at := uintptr(unsafe.Pointer(unsafe.SliceData(l)))
	return span{at, at + uintptr(cap(l))*unsafe.Sizeof(0)}
}

func (a span) meets(b span) bool { return a[0] < b[1] && b[0] < a[1] }

// roomy gives each list of n spare room, in which there are rows.
func roomy(n *api.Net) {
	for _, v := range partsOf(n) {
		if v.Kind() != reflect.Slice {
			continue
		}
		row := reflect.New(v.Type().Elem()).Elem()
		l, _ := parts(row, "")
		for _, part := range l {
			switch part.Kind() {
			case reflect.Int:
				part.SetInt(1)
			case reflect.String:
				part.SetString("spare")
			}
		}
		more := reflect.Append(v.Slice3(0, v.Len(), v.Len()), row, row)
		v.Set(more.Slice(0, v.Len()))
	}
}

// room is all that is in the lists of n, and in their spare room.
func room(n api.Net) string {
	var b strings.Builder
	for _, v := range partsOf(&n) {
		if v.Kind() == reflect.Slice {
			v = v.Slice(0, v.Cap())
		}
		fmt.Fprintf(&b, "%+v\n", v)
	}
	return b.String()
}

// lists is what the calls that answer lists tell of n.
func lists(n api.Net) [][]int {
	places, tasks := Reached(n)
	l := [][]int{places, tasks}
	for p := range n.Places {
		l = append(l, Takers(n, p), Givers(n, p))
	}
	return l
}

// P8.6: a net, and its spare room, is as it was, and lists that are answered share no memory with it, nor with one another.
func TestNothingIsChanged(t *testing.T) {
	r := rand.New(rand.NewSource(86))
	m := loose{r}
	for i := range 600 {
		n := fine()
		if i > 0 {
			n = pick(r, m.net, m.spoiled)()
		}
		roomy(&n)
		ahead := room(n)
		if i == 0 && strings.Count(ahead, "spare") < 5 {
			t.Fatal(ahead)
		}
		part, err := Net(n)
		for _, k := range numbersOf(max(len(n.Places), len(n.Tasks))) {
			Place(n, k)
			Task(n, k)
			Binds(n, k)
		}
		l, also := lists(n), lists(n)
		both := slices.Concat(l, also)
		for i, a := range both {
			for _, b := range both[:i] {
				if spanOf(a).meets(spanOf(b)) {
					t.Fatalf("%v and %v share memory: %+v", a, b, n)
				}
			}
			for _, task := range n.Tasks {
				if spanOf(a).meets(spanOf(task.Cancel)) {
					t.Fatalf("%v shares memory: %+v", a, n)
				}
			}
		}
		for _, a := range l {
			clear(a[:cap(a)])
		}
		if room(n) != ahead {
			t.Fatalf("%s\nnot\n%s", room(n), ahead)
		}
		if !slices.EqualFunc(also, lists(n), slices.Equal) {
			t.Fatalf("%v", also)
		}
		if again, e := Net(n); again != part || e != err {
			t.Fatalf("%+v, %v", again, e)
		}
		runtime.KeepAlive(both)
	}
}

// P8.1 to P8.5, W5: lists that are none and empty ones are alike.
func TestEmptyRows(t *testing.T) {
	r := rand.New(rand.NewSource(85))
	m := loose{r}
	for range 600 {
		n := pick(r, m.net, m.spoiled)()
		for _, v := range partsOf(&n) {
			if v.Kind() == reflect.Slice && v.Len() == 0 {
				v.Set(pick(r, reflect.Zero(v.Type()), reflect.MakeSlice(v.Type(), 0, 3)))
			}
		}
		agree(t, n)
	}
	for _, n := range []api.Net{{}, {Colours: []api.Colour{}, Places: []api.Place{}, Tasks: []api.Task{}}} {
		agree(t, n)
	}
}

// P8.7: of a net that is well formed, and of what is left of it without one of its tasks, or without all.
func TestTasksLeftOut(t *testing.T) {
	r := rand.New(rand.NewSource(87))
	nets := []api.Net{fine()}
	for range 500 {
		nets = append(nets, madeNet(r))
	}
	for _, n := range nets {
		if part, err := Net(n); part != (api.Part{}) || err != api.OK {
			t.Fatalf("%+v, %v: %+v", part, err, n)
		}
		for k := range n.Tasks {
			less := n
			less.Tasks = slices.Concat(n.Tasks[:k], n.Tasks[k+1:])
			if part, err := Net(less); part != (api.Part{}) || err != api.OK {
				t.Fatalf("without %d: %+v, %v: %+v", k, part, err, n)
			}
		}
		n.Tasks = nil
		if part, err := Net(n); part != (api.Part{}) || err != api.OK {
			t.Fatalf("without any: %+v, %v: %+v", part, err, n)
		}
	}
}

// P8.7: what is well formed is so, and the same, behind Text and Parse.
func TestWrittenAndRead(t *testing.T) {
	r := rand.New(rand.NewSource(88))
	nets := []api.Net{fine()}
	for range 1000 {
		nets = append(nets, madeNet(r))
	}
	for _, n := range nets {
		m, at, err := parse.Text(print.Text(n))
		if err != api.OK {
			t.Fatalf("%v at %d: %s", err, at, print.Text(n))
		}
		if part, err := Net(m); part != (api.Part{}) || err != api.OK || !print.Same(m, n) {
			t.Fatalf("%+v, %v: %s", part, err, print.Text(n))
		}
	}
}

// P8.1: what is parsed need not be well formed; the first part that is not is told.
func TestParsed(t *testing.T) {
	const head = "colour n = int 0 .. 3; place a: n; place b: n; "
	deepSum := "1" + strings.Repeat(" + 1", api.MaxDeep)
	for _, x := range []struct {
		text string
		part api.Part
		err  api.Errno
	}{
		{head + "from a; to b;", api.Part{}, api.OK},
		{head + "from a; to a;", api.Part{Kind: api.PartNet}, api.ErrArg},
		{"colour n = int 3 .. 0; place a: n; place b: n; from a; to b;", api.Part{Kind: api.PartColour}, api.ErrType},
		{"colour n = int 0 .. 3; place a: n; place b: n = 3*2, 4; from a; to b;", api.Part{Kind: api.PartPlace, At: 1}, api.ErrType},
		{head + "task t { in a(0); out b(0); } from a; to b;", api.Part{}, api.OK},
		{head + "task t { in a(0); } from a; to b;", api.Part{Kind: api.PartTask}, api.ErrArg},
		{head + "task t { in a(0); out b(0); } task u { out b(0); } from a; to b;", api.Part{Kind: api.PartTask, At: 1}, api.ErrArg},
		{head + "task t { in a(0); out b(" + deepSum + "); } from a; to b;", api.Part{Kind: api.PartTask}, api.ErrArg},
		{head + "task t { in a(0); out b(" + deepSum[4:] + "); } from a; to b;", api.Part{}, api.OK},
		{head + "task t { in a(0); out b(0); cancel a; cancel b; cancel a; } from a; to b;", api.Part{Kind: api.PartTask}, api.ErrTwice},
		{head + "task t { in a(0); out b(0); many 0, 0, 1; } from a; to b;", api.Part{Kind: api.PartTask}, api.ErrMode},
		{head + "task t { in a(0); out b(0); after 65537; } from a; to b;", api.Part{Kind: api.PartTask}, api.ErrMode},
		{head + "task t { join or; in a(0); in a(0); in a(0); in a(0); in a(0); out b(0); } from a; to b;", api.Part{Kind: api.PartTask}, api.ErrMode},
		{head + "task t { var v: n; var w: n; var x: n; var y: n; var z: n; var k: n; in a(0); out b(0); } from a; to b;", api.Part{Kind: api.PartTask}, api.ErrFull},
	} {
		n, at, err := parse.Text(x.text)
		if err != api.OK {
			t.Fatalf("%s: %v at %d", x.text, err, at)
		}
		if part, err := Net(n); part != x.part || err != x.err {
			t.Errorf("%s: %+v, %v", x.text, part, err)
		}
	}
}

// W1: nets at all limits, and far past them.
func TestGreatNets(t *testing.T) {
	n := api.Net{To: 1}
	for k := range api.MaxColours {
		var names []string
		for i := range api.MaxMembers {
			names = append(names, strings.Repeat("n", 27)+strconv.Itoa(i))
		}
		n.Colours = append(n.Colours, oneColour("c"+strconv.Itoa(k), names...))
	}
	morePlaces(&n, api.MaxPlaces)
	for k := range api.MaxTasks {
		task := api.Task{Name: "t" + strconv.Itoa(k), Guard: long(api.MaxSize - 1), Join: api.All, Split: api.All, Ins: moreArcs(nil, 16), Outs: moreArcs(nil, 16)}
		task.Vars = []api.Var{{Name: "x", Colour: k % 32}}
		n.Tasks = append(n.Tasks, task)
	}
	if part, err := Net(n); part != (api.Part{}) || err != api.OK {
		t.Errorf("%+v, %v", part, err)
	}
	n.Tasks[0].Vars = make([]api.Var, 1<<20)
	if ways := Binds(n, 0); ways != api.MaxBinds+1 {
		t.Errorf("%d", ways)
	}
	if err := Task(n, 0); err != api.ErrFull {
		t.Errorf("%v", err)
	}
	deepest := num(1)
	for range 1 << 15 {
		deepest = of(api.ENeg, 0, deepest)
	}
	n.Tasks[0].Vars, n.Tasks[0].Guard = nil, deepest
	if err := Task(n, 0); err != api.ErrArg || expr.Depth(deepest) != 1<<15+1 {
		t.Errorf("%v", err)
	}
	moreColours(&n, 1<<16)
	if part, err := Net(n); part != (api.Part{Kind: api.PartColour, At: 32}) || err != api.ErrType {
		t.Errorf("%+v, %v", part, err)
	}
	chain := flow(1<<16, 1<<16-1)
	for p := range chain.Places[1:] {
		chain.Tasks = append(chain.Tasks, api.Task{Ins: arcs(p + 1), Outs: arcs(p)})
	}
	if places, tasks := Reached(chain); len(places) != 1<<16 || len(tasks) != 1<<16-1 {
		t.Errorf("%d, %d", len(places), len(tasks))
	}
	if part, err := Net(chain); part != (api.Part{Kind: api.PartNet}) || err != api.ErrFull {
		t.Errorf("%+v, %v", part, err)
	}
}

// The README's example.
func TestReadme(t *testing.T) {
	n, _, _ := parse.Text("colour n = int 0 .. 3; place a: n = 0*2; place b: n; place d: n; task t { var x: n; var y: n; in a(x); out b(y); } task u { in d(0); out b(1); } from a; to b;")
	places, tasks := Reached(n)
	if part, err := Net(n); part != (api.Part{}) || err != api.OK {
		t.Errorf("%+v, %v", part, err)
	}
	if Binds(n, 0) != 16 || !slices.Equal(Givers(n, 1), []int{0, 1}) || !slices.Equal(places, []int{0, 1}) || !slices.Equal(tasks, []int{0}) {
		t.Errorf("%d, %v, %v, %v", Binds(n, 0), Givers(n, 1), places, tasks)
	}
	n.Tasks[1].Outs = nil
	if part, err := Net(n); part != (api.Part{Kind: api.PartTask, At: 1}) || err != api.ErrArg || Task(n, 0) != api.OK {
		t.Errorf("%+v, %v, %v", part, err, Task(n, 0))
	}
	n.Places[0].Colour = 1
	if part, err := Net(n); part != (api.Part{Kind: api.PartPlace}) || err != api.ErrNone || Place(n, 0) != api.ErrNone {
		t.Errorf("%+v, %v, %v", part, err, Place(n, 0))
	}
}
