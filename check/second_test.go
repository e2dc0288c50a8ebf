package check

import (
	"fmt"
	"math/big"
	"math/rand"
	"reflect"
	"regexp"
	"slices"
	"strings"
	"testing"

	"baldric/api"
)

// parts is the numbers, texts and lists in what v is, in all depths, and where they stand.
func parts(v reflect.Value, where string) ([]reflect.Value, []string) {
	var l []reflect.Value
	var at []string
	deeper := func(v reflect.Value, where string) {
		more, places := parts(v, where)
		l, at = append(l, more...), append(at, places...)
	}
	if v.Kind() == reflect.Struct {
		for i := range v.NumField() {
			deeper(v.Field(i), where+"."+v.Type().Field(i).Name)
		}
		return l, at
	}
	if v.Kind() != reflect.Array {
		l, at = append(l, v), append(at, where)
	}
	if v.Kind() == reflect.Array || v.Kind() == reflect.Slice {
		for i := range v.Len() {
			deeper(v.Index(i), fmt.Sprintf("%s[%d]", where, i))
		}
	}
	return l, at
}

func partsOf(n *api.Net) []reflect.Value {
	l, _ := parts(reflect.ValueOf(n).Elem(), "")
	return l
}

// others is values that a part may have, and has not.
func others(v reflect.Value) []reflect.Value {
	var l []reflect.Value
	switch v.Kind() {
	case reflect.Int:
		n := int(v.Int())
		for _, o := range []int{n + 1, n - 1, n ^ 1<<40, 0, 1, 2, 3, -1, api.MaxInt, api.MinInt} {
			l = append(l, reflect.ValueOf(o))
		}
		return l
	case reflect.String:
		s := v.String()
		for _, o := range []string{s + "_", s[min(1, len(s)):], strings.ToUpper(s), "", "xor", "9", strings.Repeat("k", api.MaxName), strings.Repeat("k", api.MaxName+1)} {
			l = append(l, reflect.ValueOf(o))
		}
		return l
	}
	empty := reflect.MakeSlice(v.Type(), 0, 0)
	l = append(l, empty, reflect.Append(reflect.AppendSlice(empty, v), reflect.Zero(v.Type().Elem())))
	if n := v.Len(); n > 0 {
		l = append(l, reflect.Append(reflect.AppendSlice(empty, v), v.Index(n-1)), v.Slice(0, n-1), v.Slice(1, n))
		l = append(l, reflect.AppendSlice(reflect.Append(empty, v.Index(n-1)), v.Slice(0, n-1)))
	}
	return l
}

var name = regexp.MustCompile(`^[a-zA-Z][a-zA-Z0-9_]{0,31}$`)

func freeName(s string) bool {
	return name.MatchString(s) && !slices.Contains(strings.Fields(words), s)
}

// sizesOf is how many members the colours have that may stand together, up to the first that may not; and how many these are.
func sizesOf(l []api.Colour) ([]int64, int) {
	var sizes []int64
	for k, c := range l {
		size := new(big.Int)
		switch {
		case c.Kind == api.CInt && c.Lo <= c.Hi:
			size.Add(size.Sub(big.NewInt(int64(c.Hi)), big.NewInt(int64(c.Lo))), big.NewInt(1))
		case c.Kind == api.CEnum:
			size.SetInt64(int64(len(c.Names)))
			for i, s := range c.Names {
				if !name.MatchString(s) || slices.Contains(c.Names[:i], s) {
					size.SetInt64(0)
				}
			}
		case c.Kind == api.CPair && c.First >= 0 && c.Then >= 0 && c.First < k && c.Then < k:
			size.Mul(big.NewInt(sizes[c.First]), big.NewInt(sizes[c.Then]))
		}
		alike := func(o api.Colour) bool { return o.Name == c.Name }
		if k >= 32 || !name.MatchString(c.Name) || slices.ContainsFunc(l[:k], alike) || size.Sign() < 1 || size.Cmp(big.NewInt(1024)) > 0 {
			return sizes, k
		}
		sizes = append(sizes, size.Int64())
	}
	return sizes, len(l)
}

// fault is a part of a net, and something that is wrong with it.
type fault struct {
	part api.Part
	err  api.Errno
}

// faults is all that is wrong with a net, as the document names it, one after another.
type faults struct {
	n     api.Net
	sizes []int64
	l     []fault
}

func faultsOf(n api.Net) []fault {
	f := &faults{n: n}
	sizes, right := sizesOf(n.Colours)
	if right == len(n.Colours) {
		f.sizes = sizes
	}
	f.net()
	for k, c := range n.Colours {
		bad := k >= right || !freeName(c.Name)
		for _, s := range c.Names {
			bad = bad || c.Kind == api.CEnum && !freeName(s)
		}
		f.say(api.PartColour, k, api.ErrType, bad)
	}
	for k, p := range n.Places {
		f.place(k, p)
	}
	for k, t := range n.Tasks {
		f.task(k, t)
	}
	return f.l
}

func (f *faults) say(kind, at int, err api.Errno, wrong bool) {
	if wrong {
		f.l = append(f.l, fault{api.Part{Kind: kind, At: at}, err})
	}
}

func none[T any](k int, l []T) bool { return k < 0 || k >= len(l) }

func (f *faults) net() {
	n := f.n
	f.say(api.PartNet, 0, api.ErrFull, len(n.Places) > 64)
	f.say(api.PartNet, 0, api.ErrFull, len(n.Tasks) > 64)
	f.say(api.PartNet, 0, api.ErrNone, none(n.From, n.Places))
	f.say(api.PartNet, 0, api.ErrNone, none(n.To, n.Places))
	f.say(api.PartNet, 0, api.ErrArg, n.From == n.To)
}

func (f *faults) place(k int, p api.Place) {
	f.say(api.PartPlace, k, api.ErrArg, !freeName(p.Name))
	f.say(api.PartPlace, k, api.ErrTwice, slices.ContainsFunc(f.n.Places[:k], func(o api.Place) bool { return o.Name == p.Name }))
	f.say(api.PartPlace, k, api.ErrNone, none(p.Colour, f.n.Colours))
	for i, row := range p.First {
		falls := i > 0 && row[0] <= p.First[i-1][0]
		f.say(api.PartPlace, k, api.ErrArg, falls || row[0] < 0 || row[1] < 1 || row[1] > 1<<20)
	}
	for _, row := range p.First {
		f.say(api.PartPlace, k, api.ErrType, none(p.Colour, f.sizes) || int64(row[0]) >= f.sizes[p.Colour])
	}
}

func (f *faults) task(k int, t api.Task) {
	say := func(err api.Errno, wrong bool) { f.say(api.PartTask, k, err, wrong) }
	say(api.ErrArg, !freeName(t.Name))
	say(api.ErrTwice, slices.ContainsFunc(f.n.Tasks[:k], func(o api.Task) bool { return o.Name == t.Name }))
	say(api.ErrFull, len(t.Vars) > 16 || len(t.Ins) > 16 || len(t.Outs) > 16 || len(t.Cancel) > 16)
	for i, v := range t.Vars {
		say(api.ErrArg, !freeName(v.Name))
		say(api.ErrTwice, slices.ContainsFunc(t.Vars[:i], func(o api.Var) bool { return o.Name == v.Name }))
		say(api.ErrNone, none(v.Colour, f.n.Colours))
	}
	say(api.ErrFull, bindsOf(f.sizes, t.Vars) > 1024)
	say(api.ErrArg, !rightExpr(t.Guard, len(t.Vars)))
	say(api.ErrArg, len(t.Ins) == 0)
	say(api.ErrArg, len(t.Outs) == 0)
	for _, a := range slices.Concat(t.Ins, t.Outs) {
		say(api.ErrNone, none(a.Place, f.n.Places))
		say(api.ErrArg, !rightExpr(a.Expr, len(t.Vars)))
	}
	for i, p := range t.Cancel {
		say(api.ErrNone, none(p, f.n.Places))
		say(api.ErrTwice, slices.Contains(t.Cancel[:i], p))
	}
	say(api.ErrMode, t.Join < 1 || t.Join > 3)
	say(api.ErrMode, t.Split < 1 || t.Split > 3)
	say(api.ErrMode, t.Join == 3 && len(t.Ins) > 4)
	say(api.ErrMode, t.Split == 3 && len(t.Outs) > 4)
	say(api.ErrMode, t.After < 0 || t.After > 65536)
	a, b, c := t.Many[0], t.Many[1], t.Many[2]
	say(api.ErrMode, (a != 0 || b != 0 || c != 0) && (a < 1 || b < a || b > 16 || c < 1 || c > b))
}

// rightExpr is whether an expression of few parts is one.
func rightExpr(e api.Expr, vars int) bool {
	var depth, size func(e api.Expr) int
	depth = func(e api.Expr) int {
		d := 0
		for _, k := range e.Kids {
			d = max(d, depth(k))
		}
		return d + 1
	}
	size = func(e api.Expr) int {
		n := 1
		for _, k := range e.Kids {
			n += size(k)
		}
		return n
	}
	kids, is := map[int]int{api.ENum: 0, api.EVar: 0, api.ENeg: 1, api.ENot: 1, api.EBin: 2, api.EIf: 3}[e.Kind]
	if !is || len(e.Kids) != kids || depth(e) > 40 || size(e) > 400 {
		return false
	}
	if e.Kind == api.EVar && (e.Num < 0 || e.Num >= vars) || e.Kind == api.EBin && (e.Num < 1 || e.Num > 11) {
		return false
	}
	return !slices.ContainsFunc(e.Kids, func(k api.Expr) bool { return !rightExpr(k, vars) })
}

// bindsOf is a product, cut off behind 1024.
func bindsOf(sizes []int64, l []api.Var) int {
	product := big.NewInt(1)
	for _, v := range l {
		if none(v.Colour, sizes) {
			return 0
		}
		product.Mul(product, big.NewInt(sizes[v.Colour]))
	}
	if product.Cmp(big.NewInt(1025)) > 0 {
		return 1025
	}
	return int(product.Int64())
}

// firstOf is the first fault that stands for the part, or for any, if it is none.
func firstOf(l []fault, part api.Part) fault {
	for _, f := range l {
		if f.part == part || part == (api.Part{}) {
			return f
		}
	}
	return fault{}
}

// placeWants and taskWants are what Place and Task must tell of the number k, all faults being l.
func placeWants(n api.Net, l []fault, k int) api.Errno {
	if none(k, n.Places) {
		return api.ErrNone
	}
	return firstOf(l, api.Part{Kind: api.PartPlace, At: k}).err
}

func taskWants(n api.Net, l []fault, k int) api.Errno {
	if none(k, n.Tasks) {
		return api.ErrNone
	}
	if slices.ContainsFunc(l, func(f fault) bool { return f.part.Kind == api.PartColour }) {
		return api.ErrType
	}
	return firstOf(l, api.Part{Kind: api.PartTask, At: k}).err
}

// numbersOf is numbers in a row of so many, and ones that are none.
func numbersOf(rows int) []int {
	l := []int{-1, rows, rows + 1, api.MinInt, api.MaxInt}
	for k := range rows {
		l = append(l, k)
	}
	return l
}

// agree holds each call against what must be told.
func agree(t *testing.T, n api.Net) []fault {
	t.Helper()
	l := faultsOf(n)
	want := firstOf(l, api.Part{})
	if part, err := Net(n); part != want.part || err != want.err {
		t.Fatalf("Net: %+v, %v, not %+v: %+v", part, err, want, n)
	}
	for _, k := range numbersOf(len(n.Places)) {
		if err, want := Place(n, k), placeWants(n, l, k); err != want {
			t.Fatalf("Place %d: %v, not %v: %+v", k, err, want, n)
		}
	}
	for _, k := range numbersOf(len(n.Tasks)) {
		if err, want := Task(n, k), taskWants(n, l, k); err != want {
			t.Fatalf("Task %d: %v, not %v: %+v", k, err, want, n)
		}
		if ways, want := Binds(n, k), bindsWant(n, k); ways != want {
			t.Fatalf("Binds %d: %d, not %d: %+v", k, ways, want, n)
		}
	}
	agreeOnArcs(t, n)
	return l
}

func bindsWant(n api.Net, k int) int {
	if none(k, n.Tasks) {
		return 0
	}
	sizes, right := sizesOf(n.Colours)
	if right < len(n.Colours) {
		sizes = nil
	}
	return bindsOf(sizes, n.Tasks[k].Vars)
}

func hasArc(l []api.Arc, place int) bool {
	return slices.ContainsFunc(l, func(a api.Arc) bool { return a.Place == place })
}

func agreeOnArcs(t *testing.T, n api.Net) {
	t.Helper()
	for _, p := range numbersOf(len(n.Places)) {
		var takers, givers []int
		for k, task := range n.Tasks {
			if hasArc(task.Ins, p) {
				takers = append(takers, k)
			}
			if hasArc(task.Outs, p) {
				givers = append(givers, k)
			}
		}
		if l := Takers(n, p); !slices.Equal(l, takers) {
			t.Fatalf("Takers %d: %v, not %v: %+v", p, l, takers, n)
		}
		if l := Givers(n, p); !slices.Equal(l, givers) {
			t.Fatalf("Givers %d: %v, not %v: %+v", p, l, givers, n)
		}
	}
	wantPlaces, wantTasks := reachedOf(n)
	if places, tasks := Reached(n); !slices.Equal(places, wantPlaces) || !slices.Equal(tasks, wantTasks) {
		t.Fatalf("Reached: %v, %v, not %v, %v: %+v", places, tasks, wantPlaces, wantTasks, n)
	}
}

// reachedOf adds what can be come to till there is nothing new.
func reachedOf(n api.Net) (places, tasks []int) {
	for changed := true; changed; {
		changed = false
		for p := range n.Places {
			isGiven := func(k int) bool { return hasArc(n.Tasks[k].Outs, p) }
			if !slices.Contains(places, p) && (p == n.From || len(n.Places[p].First) > 0 || slices.ContainsFunc(tasks, isGiven)) {
				places, changed = append(places, p), true
			}
		}
		for k, task := range n.Tasks {
			isTaken := func(p int) bool { return hasArc(task.Ins, p) }
			if !slices.Contains(tasks, k) && slices.ContainsFunc(places, isTaken) {
				tasks, changed = append(tasks, k), true
			}
		}
	}
	slices.Sort(places)
	slices.Sort(tasks)
	return places, tasks
}

// P8.1 to P8.5: of nets of any parts, well formed ones, and those that were, all calls tell what a second reading of the document does.
func TestAgainstTheSecondReading(t *testing.T) {
	r := rand.New(rand.NewSource(81))
	m := loose{r}
	told := map[fault]int{}
	for range 3000 {
		for _, n := range []api.Net{m.net(), m.spoiled(), madeNet(r)} {
			f := firstOf(agree(t, n), api.Part{})
			f.part.At = 0
			told[f]++
		}
	}
	for _, f := range []fault{
		{},
		{api.Part{Kind: api.PartNet}, api.ErrNone}, {api.Part{Kind: api.PartNet}, api.ErrArg},
		{api.Part{Kind: api.PartColour}, api.ErrType},
		{api.Part{Kind: api.PartPlace}, api.ErrArg}, {api.Part{Kind: api.PartPlace}, api.ErrTwice},
		{api.Part{Kind: api.PartPlace}, api.ErrNone}, {api.Part{Kind: api.PartPlace}, api.ErrType},
		{api.Part{Kind: api.PartTask}, api.ErrArg}, {api.Part{Kind: api.PartTask}, api.ErrTwice},
		{api.Part{Kind: api.PartTask}, api.ErrNone}, {api.Part{Kind: api.PartTask}, api.ErrFull},
		{api.Part{Kind: api.PartTask}, api.ErrMode},
	} {
		if told[f] < 5 {
			t.Errorf("%+v: %d times", f, told[f])
		}
	}
}

// P8.1 to P8.5: a net that is well formed, and each number, text and row of it changed by itself.
func TestEachPartChanged(t *testing.T) {
	n := fine()
	for i := range partsOf(&n) {
		n = fine()
		part := partsOf(&n)[i]
		kept := reflect.New(part.Type()).Elem()
		kept.Set(part)
		for _, v := range others(part) {
			part.Set(v.Convert(part.Type()))
			agree(t, n)
		}
		part.Set(kept)
		if l := agree(t, n); len(l) > 0 {
			t.Fatalf("%+v", l)
		}
	}
}
