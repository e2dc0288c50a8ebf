package print

import (
	"math/rand"
	"slices"
	"strconv"
	"strings"
	"testing"

	"baldric/api"
)

// P7.1
func TestText(t *testing.T) {
	const want = "colour n = int -1 .. 3;\n" +
		"colour c = enum red, blue;\n" +
		"colour p = pair c, n;\n" +
		"colour q = ?;\n" +
		"place a: n = 0*3, 2*1;\n" +
		"place b: p = 4*5, 1*2;\n" +
		"place d: c;\n" +
		"task t {\n" +
		"\tvar x: n;\n\tvar y: p;\n" +
		"\twhen if(x < 3, !y, (x + 1) * y);\n" +
		"\tjoin or;\n\tsplit xor;\n" +
		"\tin a(x);\n\tin b((x + 1) * y);\n" +
		"\tout b((x + 1) * y);\n\tout d(-y);\n" +
		"\tcancel d;\n\tcancel b;\n" +
		"\tafter 5;\n\tmany 1, 3, 2;\n" +
		"}\n" +
		"task u {\n}\n" +
		"from a;\n" +
		"to b;\n"
	if got := Text(whole()); got != want {
		t.Errorf("%s\nnot\n%s", got, want)
	}
}

// P7.1
func TestTextOfNothing(t *testing.T) {
	const want = "from ?;\nto ?;\n"
	empty := api.Net{Colours: []api.Colour{}, Places: []api.Place{}, Tasks: []api.Task{}}
	if got, also := Text(api.Net{}), Text(empty); got != want || also != want {
		t.Errorf("%q, %q", got, also)
	}
}

// P7.1
func TestTextColours(t *testing.T) {
	ahead := []api.Colour{{Name: "m", Kind: api.CInt}, {Name: "", Kind: api.CInt}, {Name: "to", Kind: api.CInt}}
	pair := func(first, then int) api.Colour {
		return api.Colour{Name: "k", Kind: api.CPair, First: first, Then: then}
	}
	for _, c := range []struct {
		colour api.Colour
		want   string
	}{
		{api.Colour{Name: "k", Kind: api.CInt}, "k = int 0 .. 0"},
		{api.Colour{Name: "k", Kind: api.CInt, Lo: 2, Hi: 5}, "k = int 2 .. 5"},
		{api.Colour{Name: "k", Kind: api.CInt, Lo: 5, Hi: -2}, "k = int 5 .. -2"},
		{api.Colour{Name: "k", Kind: api.CInt, Lo: api.MinInt, Hi: api.MaxInt}, "k = int -9223372036854775808 .. 9223372036854775807"},
		{api.Colour{Name: "k", Kind: api.CInt, Hi: 1, Names: []string{"a"}, First: 1, Then: 2}, "k = int 0 .. 1"},
		{api.Colour{Name: "k", Kind: api.CEnum}, "k = enum "},
		{api.Colour{Name: "k", Kind: api.CEnum, Names: []string{}, Lo: 1, Hi: 4}, "k = enum "},
		{api.Colour{Name: "k", Kind: api.CEnum, Names: []string{"a"}}, "k = enum a"},
		{api.Colour{Name: "k", Kind: api.CEnum, Names: []string{"z", "a", "z", "if", "", "7"}}, "k = enum z, a, z, if, , 7"},
		{pair(0, 2), "k = pair m, to"},
		{pair(2, 0), "k = pair to, m"},
		{pair(0, 1), "k = pair m, "},
		{pair(3, 4), "k = pair k, z"},
		{pair(5, 0), "k = pair ?, m"},
		{pair(0, 5), "k = pair m, ?"},
		{pair(-1, api.MaxInt), "k = pair ?, ?"},
		{pair(api.MinInt, 0), "k = pair ?, m"},
		{api.Colour{}, " = ?"},
		{api.Colour{Name: "k", Lo: 1, Hi: 2, Names: []string{"a"}}, "k = ?"},
		{api.Colour{Name: "k", Kind: -1}, "k = ?"},
		{api.Colour{Name: "k", Kind: 4}, "k = ?"},
		{api.Colour{Name: "k", Kind: api.MaxInt}, "k = ?"},
		{api.Colour{Name: "k", Kind: api.MinInt}, "k = ?"},
		{api.Colour{Name: "k", Kind: 1<<32 + 1}, "k = ?"},
		{api.Colour{Name: "from a;\n", Kind: api.CInt}, "from a;\n = int 0 .. 0"},
	} {
		n := api.Net{Colours: append(slices.Clone(ahead), c.colour, api.Colour{Name: "z", Kind: api.CEnum, Names: []string{"y"}})}
		want := "colour m = int 0 .. 0;\ncolour  = int 0 .. 0;\ncolour to = int 0 .. 0;\ncolour " + c.want + ";\ncolour z = enum y;\nfrom ?;\nto ?;\n"
		if got := Text(n); got != want {
			t.Errorf("%+v: %q, not %q", c.colour, got, want)
		}
	}
}

// P7.1
func TestTextPlaces(t *testing.T) {
	for _, c := range []struct {
		place api.Place
		want  string
	}{
		{api.Place{Name: "a"}, "a: n"},
		{api.Place{Name: "a", Colour: 1}, "a: c"},
		{api.Place{Name: "a", Colour: 1, First: api.Bag{}}, "a: c"},
		{api.Place{Name: "a", First: api.Bag{{0, 1}}}, "a: n = 0*1"},
		{api.Place{Name: "a", First: api.Bag{{0, 3}, {2, 1}, {9, api.MaxCount}}}, "a: n = 0*3, 2*1, 9*1048576"},
		{api.Place{Name: "a", First: api.Bag{{5, 0}, {2, 1}, {5, 7}, {2, 1}}}, "a: n = 5*0, 2*1, 5*7, 2*1"},
		{api.Place{Name: "a", First: api.Bag{{-1, -2}, {api.MinInt, api.MaxInt}}}, "a: n = -1*-2, -9223372036854775808*9223372036854775807"},
		{api.Place{Name: "a", Colour: 2}, "a: ?"},
		{api.Place{Name: "a", Colour: -1, First: api.Bag{{1, 2}}}, "a: ? = 1*2"},
		{api.Place{Name: "a", Colour: api.MaxInt}, "a: ?"},
		{api.Place{Name: "a", Colour: api.MinInt}, "a: ?"},
		{api.Place{}, ": n"},
		{api.Place{Name: "place", Colour: 1}, "place: c"},
	} {
		n := api.Net{
			Colours: []api.Colour{{Name: "n", Kind: api.CInt}, {Name: "c", Kind: api.CInt}},
			Places:  []api.Place{{Name: "b", Colour: 1}, c.place}, To: 1,
		}
		want := "colour n = int 0 .. 0;\ncolour c = int 0 .. 0;\nplace b: c;\nplace " + c.want + ";\nfrom b;\nto " + c.place.Name + ";\n"
		if got := Text(n); got != want {
			t.Errorf("%+v: %q, not %q", c.place, got, want)
		}
	}
}

// P7.1
func TestTextEnds(t *testing.T) {
	n := api.Net{Places: []api.Place{{Name: "a"}, {Name: ""}, {Name: "b"}}}
	names := map[int]string{0: "a", 1: "", 2: "b", 3: "?", -1: "?", api.MinInt: "?", api.MaxInt: "?"}
	for from, first := range names {
		for to, last := range names {
			n.From, n.To = from, to
			want := "place a: ?;\nplace : ?;\nplace b: ?;\nfrom " + first + ";\nto " + last + ";\n"
			if got := Text(n); got != want {
				t.Errorf("%d, %d: %q", from, to, got)
			}
		}
	}
}

// P7.2
func TestNoTask(t *testing.T) {
	for _, n := range []api.Net{whole(), {}} {
		for _, k := range []int{len(n.Tasks), len(n.Tasks) + 1, -1, -2, api.MinInt, api.MaxInt} {
			if s, l := Task(n, k), Clauses(n, k); s != "" || len(l) != 0 {
				t.Errorf("%d: %q, %q", k, s, l)
			}
		}
	}
}

// P7.2
func TestTask(t *testing.T) {
	n := whole()
	n.Tasks = append(n.Tasks,
		api.Task{Name: "v", Guard: num(1), Join: api.All, Split: api.All, Cancel: []int{0}},
		api.Task{})
	for k, want := range []string{
		"", "task u {\n}", "task v {\n\tcancel a;\n}", "task  {\n\twhen ?;\n\tjoin ?;\n\tsplit ?;\n}",
	} {
		if got := Task(n, k); k > 0 && got != want {
			t.Errorf("%d: %q, not %q", k, got, want)
		}
		if s := Text(n); !strings.Contains(s, "\n"+Task(n, k)+"\n") {
			t.Errorf("%d is not in %q", k, s)
		}
	}
	want := "task t {\n\t" + strings.Join(Clauses(n, 0), ";\n\t") + ";\n}"
	if got := Task(n, 0); got != want || len(Clauses(n, 0)) != 13 {
		t.Errorf("%q, not %q", got, want)
	}
}

// P7.2: what each part of a task is written as, alone.
func TestClauses(t *testing.T) {
	odd := []int{0, -1, 4, 7, api.MinInt, api.MaxInt, 1<<32 + 1}
	type row struct {
		put  func(*api.Task)
		want []string
	}
	say := func(put func(*api.Task), want ...string) row { return row{put, want} }
	l := []row{
		say(func(k *api.Task) {}),
		say(func(k *api.Task) { k.Name = "when" }),
		say(func(k *api.Task) {
			k.Vars, k.Ins, k.Outs, k.Cancel = []api.Var{}, []api.Arc{}, []api.Arc{}, []int{}
			k.Guard.Kids = []api.Expr{}
		}),
		say(func(k *api.Task) { k.Vars = []api.Var{{Name: "x", Colour: 1}} }, "var x: c"),
		say(func(k *api.Task) { k.Vars = []api.Var{{Name: "x"}, {Name: "x"}, {Name: "", Colour: 1}} }, "var x: n", "var x: n", "var : c"),
		say(func(k *api.Task) {
			k.Vars = []api.Var{{Name: "y", Colour: 2}, {Name: "z", Colour: -1}, {Name: "or", Colour: api.MaxInt}}
		}, "var y: ?", "var z: ?", "var or: ?"),
		say(func(k *api.Task) { k.Join = api.One }, "join xor"),
		say(func(k *api.Task) { k.Join = api.Some }, "join or"),
		say(func(k *api.Task) { k.Split = api.One }, "split xor"),
		say(func(k *api.Task) { k.Split = api.Some }, "split or"),
		say(func(k *api.Task) { k.Join, k.Split = api.Some, api.One }, "join or", "split xor"),
		say(func(k *api.Task) { k.Ins = []api.Arc{{Place: 1, Expr: num(2)}} }, "in b(2)"),
		say(func(k *api.Task) { k.Ins = []api.Arc{{Place: 1}, {Place: 0, Expr: num(0)}, {Place: 1}} }, "in b(?)", "in a(0)", "in b(?)"),
		say(func(k *api.Task) { k.Outs = []api.Arc{{Place: 1, Expr: num(2)}} }, "out b(2)"),
		say(func(k *api.Task) {
			k.Outs = []api.Arc{{Place: 2, Expr: num(1)}, {Place: -1, Expr: num(-1)}, {Place: api.MinInt, Expr: vari(0)}}
			k.Ins = []api.Arc{{Place: api.MaxInt, Expr: num(1)}}
		}, "in ?(1)", "out ?(1)", "out ?((-1))", "out ?(?)"),
		say(func(k *api.Task) { k.Cancel = []int{1} }, "cancel b"),
		say(func(k *api.Task) { k.Cancel = []int{1, 0, 1, 2, -1, api.MinInt} }, "cancel b", "cancel a", "cancel b", "cancel ?", "cancel ?", "cancel ?"),
		say(func(k *api.Task) { k.After = 1 }, "after 1"),
		say(func(k *api.Task) { k.After = -3 }, "after -3"),
		say(func(k *api.Task) { k.After = api.MaxInt }, "after 9223372036854775807"),
		say(func(k *api.Task) { k.After = api.MinInt }, "after -9223372036854775808"),
		say(func(k *api.Task) { k.Many = [3]int{1, 0, 0} }, "many 1, 0, 0"),
		say(func(k *api.Task) { k.Many = [3]int{0, 1, 0} }, "many 0, 1, 0"),
		say(func(k *api.Task) { k.Many = [3]int{0, 0, 1} }, "many 0, 0, 1"),
		say(func(k *api.Task) { k.Many = [3]int{-1, 1, 0} }, "many -1, 1, 0"),
		say(func(k *api.Task) { k.Many = [3]int{4, 5, 6} }, "many 4, 5, 6"),
		say(func(k *api.Task) { k.Many = [3]int{api.MinInt, 0, api.MaxInt} }, "many -9223372036854775808, 0, 9223372036854775807"),
	}
	for _, kind := range odd {
		l = append(l,
			say(func(k *api.Task) { k.Join = kind }, "join ?"),
			say(func(k *api.Task) { k.Split = kind }, "split ?"))
	}
	for _, c := range l {
		k := api.Task{Name: "t", Guard: num(1), Join: api.All, Split: api.All}
		c.put(&k)
		n := api.Net{
			Colours: []api.Colour{{Name: "n"}, {Name: "c"}},
			Places:  []api.Place{{Name: "a"}, {Name: "b"}},
			Tasks:   []api.Task{{Name: "other", After: 7}, k},
		}
		if got := Clauses(n, 1); !slices.Equal(got, c.want) {
			t.Errorf("%+v: %q, not %q", k, got, c.want)
		}
	}
}

// P7.2: the Guard, and each form of an expression, where it may stand.
func TestClausesExprs(t *testing.T) {
	x, y := vari(0), vari(1)
	for _, c := range []struct {
		e    api.Expr
		want string
	}{
		{num(1), "1"}, {num(0), "0"}, {num(2), "2"}, {num(-1), "(-1)"}, {num(api.MinInt), "(-9223372036854775808)"},
		{of(api.ENum, 1, x), "1"}, {of(api.ENum, 1, num(1)), "1"},
		{x, "x"}, {y, "y"}, {vari(2), "?"}, {vari(-1), "?"}, {vari(api.MaxInt), "?"},
		{of(api.ENeg, 0, num(1)), "-1"}, {of(api.ENeg, 1, x), "-x"}, {of(api.ENot, 1, x), "!x"}, {of(api.ENot, 0, of(api.ENot, 0, num(1))), "!!1"},
		{of(api.EBin, api.Add, x, y), "x + y"}, {of(api.EBin, api.Eq, num(1), num(1)), "1 == 1"},
		{of(api.EBin, api.Sub, x, of(api.EBin, api.Sub, y, num(1))), "x - (y - 1)"},
		{of(api.EBin, api.Mul, of(api.EBin, api.Or, x, y), of(api.ENeg, 0, x)), "(x || y) * -x"},
		{of(api.EIf, 0, x, num(1), y), "if(x, 1, y)"},
		{api.Expr{}, "?"}, {of(7, 1), "?"}, {of(-1, 1, x), "?"}, {of(0, 1), "?"},
		{of(api.ENeg, 0), "-?"}, {of(api.EBin, 12, x, y), "x ? y"}, {of(api.EBin, api.Add, x), "x + ?"}, {of(api.EIf, 0, x), "if(x, ?, ?)"}, {of(api.ENot, 0, x, y), "!x"},
	} {
		k := api.Task{
			Vars:  []api.Var{{Name: "x"}, {Name: "y"}},
			Guard: c.e, Join: api.All, Split: api.All,
			Ins: []api.Arc{{Expr: c.e}}, Outs: []api.Arc{{Expr: c.e}},
		}
		want := []string{"var x: ?", "var y: ?", "when " + c.want, "in a(" + c.want + ")", "out a(" + c.want + ")"}
		if c.e.Kind == api.ENum && c.e.Num == 1 && len(c.e.Kids) == 0 {
			want = slices.Delete(want, 2, 3)
		}
		if got := Clauses(api.Net{Places: []api.Place{{Name: "a"}}, Tasks: []api.Task{k}}, 0); !slices.Equal(got, want) {
			t.Errorf("%+v: %q, not %q", c.e, got, want)
		}
	}
}

// P7.2: names in an expression are those of its own task's variables, whatever they are.
func TestClausesNames(t *testing.T) {
	k := api.Task{Guard: vari(0), Join: api.All, Split: api.All, Ins: []api.Arc{{Expr: of(api.EBin, api.Add, vari(0), vari(1))}}}
	n := api.Net{Places: []api.Place{{Name: "a"}}, Tasks: []api.Task{k, k, k}}
	n.Tasks[0].Vars = []api.Var{{Name: "x"}, {Name: ""}}
	n.Tasks[1].Vars = []api.Var{{Name: "if"}}
	for i, want := range [][]string{
		{"var x: ?", "var : ?", "when x", "in a(x + )"},
		{"var if: ?", "when if", "in a(if + ?)"},
		{"when ?", "in a(? + ?)"},
	} {
		if got := Clauses(n, i); !slices.Equal(got, want) {
			t.Errorf("%d: %q, not %q", i, got, want)
		}
	}
}

// P7.1, P7.2: nets of any parts, held against a text that is put together in another way.
func TestAnyNets(t *testing.T) {
	r := rand.New(rand.NewSource(71))
	for range 4000 {
		n := loose{r}.net()
		if got, want := Text(n), spelt(n); got != want {
			t.Fatalf("%+v\n%s\nnot\n%s", n, got, want)
		}
		for k := range n.Tasks {
			if got, want := Task(n, k), speltTask(n, k); got != want {
				t.Fatalf("%+v\n%s\nnot\n%s", n, got, want)
			}
			if got, want := Clauses(n, k), speltClauses(n, n.Tasks[k]); !slices.Equal(got, want) {
				t.Fatalf("%+v\n%q\nnot\n%q", n, got, want)
			}
		}
	}
}

// P7.1, P7.2: no limit of nets' parts holds here.
func TestTextOfMany(t *testing.T) {
	const many = 4 * api.MaxPlaces
	var n api.Net
	var colours, places, tasks strings.Builder
	for i := range many {
		name, before := "x"+strconv.Itoa(i), "x"+strconv.Itoa(max(0, i-1))
		n.Colours = append(n.Colours, api.Colour{Name: name, Kind: api.CPair, First: i, Then: max(0, i-1)})
		n.Places = append(n.Places, api.Place{Name: name, Colour: i})
		n.Tasks = append(n.Tasks, api.Task{Name: name, Guard: num(1), Join: api.All, Split: api.All, Cancel: []int{i}})
		colours.WriteString("colour " + name + " = pair " + name + ", " + before + ";\n")
		places.WriteString("place " + name + ": " + name + ";\n")
		tasks.WriteString("task " + name + " {\n\tcancel " + name + ";\n}\n")
	}
	n.From, n.To = many-1, many-2
	want := colours.String() + places.String() + tasks.String() + "from x255;\nto x254;\n"
	if got := Text(n); got != want {
		t.Errorf("%s\nnot\n%s", got, want)
	}
	if Task(n, many-1) != "task x255 {\n\tcancel x255;\n}" || !Same(n, Copy(n)) {
		t.Error(Task(n, many-1))
	}
}

// W1, and the bound: many rows, and parts as deep as may be.
func TestGreatNets(t *testing.T) {
	const many = 1 << 14
	e := vari(many - 1)
	for range 1<<16 - 8 {
		e = of(api.ENeg, 0, e)
	}
	k := api.Task{Name: "t", Guard: e, Join: api.All, Split: api.All}
	for range many {
		k.Vars = append(k.Vars, api.Var{Name: "x"})
		k.Ins = append(k.Ins, api.Arc{Expr: vari(many - 1)})
	}
	n := api.Net{Tasks: []api.Task{k}}
	want := "task t {\n" + strings.Repeat("\tvar x: ?;\n", many) + "\twhen " + strings.Repeat("-", 1<<16-8) + "x;\n" + strings.Repeat("\tin ?(x);\n", many) + "}"
	if got := Task(n, 0); got != want {
		t.Errorf("%d bytes, not %d", len(got), len(want))
	}
	if m := Copy(n); !Same(n, m) {
		t.Error("not the same")
	}
}
