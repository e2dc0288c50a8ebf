package bind

import (
	"math/rand"
	"slices"
	"testing"

	"baldric/api"
	"baldric/bag"
	"baldric/check"
	"baldric/parse"
)

// load is the net of a text that is well formed.
func load(t *testing.T, s string) api.Net {
	t.Helper()
	n, at, err := parse.Text(s)
	if err != api.OK {
		t.Fatalf("%d: %v", at, err)
	}
	if part, err := check.Net(n); err != api.OK {
		t.Fatalf("%+v: %v", part, err)
	}
	return n
}

// mixed has a task without variables, and one with variables of each kind of colour.
const mixed = "colour n = int 3 .. 6; colour c = enum red, blue; colour p = pair c, n; " +
	"place a: n; place b: p; place d: c; place e: n; " +
	"task s { in a(5); out e(3); } " +
	"task t { var x: n; var y: c; var z: p; in a(x); in d(y); in b(z); split xor; out e(x); out d(y); out b(z); } " +
	"from a; to e;"

// P10.1
func TestEnv(t *testing.T) {
	n := load(t, mixed)
	for _, x := range []struct {
		task int
		vars []int
		want []int
		err  api.Errno
	}{
		{0, nil, nil, api.OK},
		{0, []int{}, nil, api.OK},
		{1, []int{0, 0, 0}, []int{3, 0, 0}, api.OK},
		{1, []int{3, 1, 7}, []int{6, 1, 7}, api.OK},
		{1, []int{2, 0, 5}, []int{5, 0, 5}, api.OK},
		{0, []int{0}, nil, api.ErrArg},
		{1, nil, nil, api.ErrArg},
		{1, []int{0, 0}, nil, api.ErrArg},
		{1, []int{0, 0, 0, 0}, nil, api.ErrArg},
		{1, []int{4, 0, 0}, nil, api.ErrArg},
		{1, []int{0, 2, 0}, nil, api.ErrArg},
		{1, []int{0, 0, 8}, nil, api.ErrArg},
		{1, []int{-1, 0, 0}, nil, api.ErrArg},
		{1, []int{0, -1, 0}, nil, api.ErrArg},
		{1, []int{0, 0, -1}, nil, api.ErrArg},
		{1, []int{api.MaxInt, 0, 0}, nil, api.ErrArg},
		{1, []int{0, api.MinInt, 0}, nil, api.ErrArg},
		{1, []int{0, 0, api.MaxInt}, nil, api.ErrArg},
		{-1, nil, nil, api.ErrNone},
		{2, nil, nil, api.ErrNone},
		{2, []int{9}, nil, api.ErrNone},
		{api.MaxInt, nil, nil, api.ErrNone},
		{api.MinInt, []int{0, 0, 0}, nil, api.ErrNone},
	} {
		if env, err := Env(n, x.task, x.vars); err != x.err || !slices.Equal(env, x.want) {
			t.Errorf("%d %v: %v, %v", x.task, x.vars, env, err)
		}
	}
}

// P10.1: the ends of numbers, and colours whose Lo means nothing.
func TestEnvAtEnds(t *testing.T) {
	n := api.Net{Colours: []api.Colour{
		{Name: "low", Kind: api.CInt, Lo: api.MinInt, Hi: api.MinInt + 1023},
		{Name: "high", Kind: api.CInt, Lo: api.MaxInt - 1023, Hi: api.MaxInt},
		{Name: "about", Kind: api.CInt, Lo: -2, Hi: 2},
		{Name: "one", Kind: api.CInt, Lo: api.MaxInt, Hi: api.MaxInt},
		{Name: "c", Kind: api.CEnum, Lo: 40, Hi: 2, Names: []string{"x", "y"}},
		{Name: "p", Kind: api.CPair, Lo: 40, Hi: 50, First: 3, Then: 2},
	}}
	for k, l := range [][]int{
		{api.MinInt, api.MinInt + 1023, 1024}, {api.MaxInt - 1023, api.MaxInt, 1024}, {-2, 2, 5}, {api.MaxInt, api.MaxInt, 1}, {0, 1, 2}, {0, 4, 5},
	} {
		n.Tasks = []api.Task{{Vars: []api.Var{{Name: "x", Colour: k}}}}
		for m, want := range map[int]int{0: l[0], l[2] - 1: l[1]} {
			if env, err := Env(n, 0, []int{m}); err != api.OK || !slices.Equal(env, []int{want}) {
				t.Errorf("%d of %d: %v, %v", m, k, env, err)
			}
		}
		for _, m := range []int{-1, l[2], l[0], l[1]} {
			if env, err := Env(n, 0, []int{m}); (m < 0 || m >= l[2]) && (err != api.ErrArg || env != nil) {
				t.Errorf("%d of %d: %v, %v", m, k, env, err)
			}
		}
	}
}

// P10.1
func TestChoices(t *testing.T) {
	same := func(a, b [][]int) bool {
		return slices.EqualFunc(a, b, func(x, y []int) bool { return slices.Equal(x, y) })
	}
	four := [][]int{{0}, {1}, {0, 1}, {2}, {0, 2}, {1, 2}, {0, 1, 2}, {3}, {0, 3}, {1, 3}, {0, 1, 3}, {2, 3}, {0, 2, 3}, {1, 2, 3}, {0, 1, 2, 3}}
	sixteen := [][]int{{0}, {1}, {2}, {3}, {4}, {5}, {6}, {7}, {8}, {9}, {10}, {11}, {12}, {13}, {14}, {15}}
	for _, x := range []struct {
		kind, arcs int
		want       [][]int
	}{
		{api.All, 0, [][]int{{}}},
		{api.All, 1, [][]int{{0}}},
		{api.All, 3, [][]int{{0, 1, 2}}},
		{api.All, 5, [][]int{{0, 1, 2, 3, 4}}},
		{api.All, api.MaxArcs, [][]int{{0, 1, 2, 3, 4, 5, 6, 7, 8, 9, 10, 11, 12, 13, 14, 15}}},
		{api.All, api.MaxArcs + 1, nil},
		{api.One, 0, nil},
		{api.One, 1, [][]int{{0}}},
		{api.One, 5, [][]int{{0}, {1}, {2}, {3}, {4}}},
		{api.One, api.MaxArcs, sixteen},
		{api.One, api.MaxArcs + 1, nil},
		{api.Some, 0, nil},
		{api.Some, 1, four[:1]},
		{api.Some, 2, four[:3]},
		{api.Some, 3, four[:7]},
		{api.Some, api.MaxSome, four},
		{api.Some, api.MaxSome + 1, nil},
		{api.Some, api.MaxArcs, nil},
		{0, 1, nil}, {4, 1, nil}, {-1, 1, nil}, {0, 0, nil}, {4, 0, nil}, {api.MaxInt, 2, nil}, {api.MinInt, 2, nil},
	} {
		if l := Choices(x.kind, x.arcs); !same(l, x.want) {
			t.Errorf("%d of %d: %v", x.kind, x.arcs, l)
		}
	}
	for kind := -1; kind < 6; kind++ {
		for _, arcs := range []int{-1, -2, api.MaxArcs + 1, 64, 65, 1 << 20, api.MinInt, api.MaxInt} {
			if l := Choices(kind, arcs); len(l) != 0 {
				t.Errorf("%d of %d: %v", kind, arcs, l)
			}
		}
	}
}

// drawn is a net of a task whose arcs are told by places and what comes to them, the same ones on both sides.
func drawn(arcs ...api.Arc) api.Net {
	return api.Net{
		Colours: []api.Colour{{Name: "n", Kind: api.CInt, Lo: 3, Hi: 6}, {Name: "c", Kind: api.CEnum, Names: []string{"red", "blue"}}, {Name: "p", Kind: api.CPair, First: 1, Then: 0}},
		Places:  []api.Place{{Name: "a", Colour: 0}, {Name: "b", Colour: 1}, {Name: "d", Colour: 2}, {Name: "e", Colour: 0}},
		Tasks:   []api.Task{{Name: "t", Vars: []api.Var{{Name: "x", Colour: 0}}, Guard: num(1), Join: api.All, Split: api.All, Ins: arcs, Outs: arcs}},
		To:      1,
	}
}

// Expressions that tell an error, and arcs of which one tells another than the next.
var (
	byNone  = of(api.EBin, api.Div, num(1), num(0))
	over    = of(api.EBin, api.Add, num(api.MaxInt), num(1))
	toNone  = api.Arc{Place: 0, Expr: num(2)}
	toOver  = api.Arc{Place: 0, Expr: over}
	divided = api.Arc{Place: 0, Expr: byNone}
)

// P10.2: also what is needed twice, in whichever order it is told.
func TestNeedsAndGives(t *testing.T) {
	x := vari(0)
	n := drawn(api.Arc{Place: 0, Expr: x}, api.Arc{Place: 0, Expr: num(5)}, api.Arc{Place: 1, Expr: num(1)}, api.Arc{Place: 2, Expr: x}, api.Arc{Place: 0, Expr: num(3)}, toNone, toOver, divided)
	for _, c := range []struct {
		vars  []int
		which []int
		want  api.Marking
		err   api.Errno
	}{
		{[]int{0}, nil, api.Marking{nil, nil, nil, nil}, api.OK},
		{[]int{0}, []int{0}, api.Marking{{{0, 1}}, nil, nil, nil}, api.OK},
		{[]int{3}, []int{0}, api.Marking{{{3, 1}}, nil, nil, nil}, api.OK},
		{[]int{1}, []int{0, 1}, api.Marking{{{1, 1}, {2, 1}}, nil, nil, nil}, api.OK},
		{[]int{3}, []int{0, 1}, api.Marking{{{2, 1}, {3, 1}}, nil, nil, nil}, api.OK},
		{[]int{2}, []int{0, 1}, api.Marking{{{2, 2}}, nil, nil, nil}, api.OK},
		{[]int{0}, []int{0, 1, 2, 3, 4}, api.Marking{{{0, 2}, {2, 1}}, {{1, 1}}, {{3, 1}}, nil}, api.OK},
		{[]int{0}, []int{4, 2, 3, 1, 0}, api.Marking{{{0, 2}, {2, 1}}, {{1, 1}}, {{3, 1}}, nil}, api.OK},
		{[]int{0}, []int{2, 2, 0, 2}, api.Marking{{{0, 1}}, {{1, 3}}, nil, nil}, api.OK},
		{[]int{0}, []int{-1}, nil, api.ErrMode},
		{[]int{0}, []int{8}, nil, api.ErrMode},
		{[]int{0}, []int{0, api.MaxInt}, nil, api.ErrMode},
		{[]int{0}, []int{0, api.MinInt}, nil, api.ErrMode},
		{[]int{0}, []int{0, 1, 5}, nil, api.ErrType},
		{[]int{0}, []int{0, 1, 6}, nil, api.ErrOver},
		{[]int{0}, []int{0, 1, 7}, nil, api.ErrZero},
		{[]int{0}, []int{7, 6, 5, 8}, nil, api.ErrZero},
		{[]int{0}, []int{6, 7, 5, 8}, nil, api.ErrOver},
		{[]int{0}, []int{5, 7, 6, 8}, nil, api.ErrType},
		{[]int{0}, []int{8, 7, 6, 5}, nil, api.ErrMode},
		{[]int{0}, []int{0, 0, -1, 5}, nil, api.ErrMode},
		{nil, []int{8}, nil, api.ErrArg},
		{[]int{4}, []int{5}, nil, api.ErrArg},
		{[]int{-1}, []int{0}, nil, api.ErrArg},
		{[]int{0, 0}, []int{0}, nil, api.ErrArg},
	} {
		m, err := Needs(n, api.Mode{Vars: c.vars, Ins: c.which, Outs: []int{9}})
		if err != c.err || !sameRows(m, c.want) {
			t.Errorf("Needs %v %v: %v, %v", c.vars, c.which, m, err)
		}
		m, err = Gives(n, api.Mode{Vars: c.vars, Ins: []int{9}, Outs: c.which})
		if err != c.err || !sameRows(m, c.want) {
			t.Errorf("Gives %v %v: %v, %v", c.vars, c.which, m, err)
		}
	}
	for _, task := range []int{-1, 1, api.MaxInt, api.MinInt} {
		o := api.Mode{Task: task, Vars: []int{7}, Ins: []int{8}, Outs: []int{8}}
		if m, err := Needs(n, o); m != nil || err != api.ErrNone {
			t.Errorf("Needs of %d: %v, %v", task, m, err)
		}
		if m, err := Gives(n, o); m != nil || err != api.ErrNone {
			t.Errorf("Gives of %d: %v, %v", task, m, err)
		}
	}
}

// P10.2: Ins and Outs are not taken for one another.
func TestNeedsOrGives(t *testing.T) {
	n := load(t, mixed)
	o := api.Mode{Task: 1, Vars: []int{1, 1, 6}, Ins: []int{0, 1, 2}, Outs: []int{0}}
	if m, err := Needs(n, o); err != api.OK || !sameRows(m, api.Marking{{{1, 1}}, {{6, 1}}, {{1, 1}}, nil}) {
		t.Errorf("%v, %v", m, err)
	}
	if m, err := Gives(n, o); err != api.OK || !sameRows(m, api.Marking{nil, nil, nil, {{1, 1}}}) {
		t.Errorf("%v, %v", m, err)
	}
}

// P10.2: members are those of the arc's place, at the ends of its colour.
func TestMembersAtEnds(t *testing.T) {
	for _, c := range []struct {
		lo, hi int
	}{{3, 6}, {-1, 1}, {0, 0}, {api.MinInt, api.MinInt + 1023}, {api.MaxInt - 1023, api.MaxInt}, {api.MaxInt, api.MaxInt}, {api.MinInt, api.MinInt}} {
		for _, x := range []int{c.lo, c.hi, c.lo - 1, c.hi + 1, 0, -1, 1, api.MinInt, api.MaxInt} {
			n := drawn(api.Arc{Place: 0, Expr: num(x)})
			n.Colours[0].Lo, n.Colours[0].Hi = c.lo, c.hi
			n.Colours[2].Then = 1
			m, err := Needs(n, api.Mode{Vars: []int{0}, Ins: []int{0}})
			if x < c.lo || x > c.hi {
				if err != api.ErrType || m != nil {
					t.Errorf("%d of %v: %v, %v", x, c, m, err)
				}
			} else if err != api.OK || len(m[0]) != 1 || m[0][0] != [2]int{x - c.lo, 1} {
				t.Errorf("%d of %v: %v, %v", x, c, m, err)
			}
		}
	}
	for place, size := range []int{4, 2, 8, 4} {
		for x := -2; x < 12; x++ {
			first := []int{3, 0, 0, 3}[place]
			m, err := Gives(drawn(api.Arc{Place: place, Expr: num(x)}), api.Mode{Vars: []int{0}, Outs: []int{0}})
			if is := x >= first && x < first+size; is != (err == api.OK) || !is && err != api.ErrType || is && m[place][0] != [2]int{x - first, 1} {
				t.Errorf("%d in %d: %v, %v", x, place, m, err)
			}
		}
	}
}

// P10.2: more tokens of one member than a bag may have; errors of arcs come first.
func TestSumTooGreat(t *testing.T) {
	n := drawn(api.Arc{Place: 0, Expr: num(4)}, api.Arc{Place: 3, Expr: num(4)}, api.Arc{Place: 0, Expr: vari(0)}, divided)
	most := slices.Repeat([]int{0}, api.MaxCount)
	o := api.Mode{Vars: []int{0}, Ins: append(slices.Clone(most), 1, 2)}
	if m, err := Needs(n, o); err != api.OK || !sameRows(m, api.Marking{{{0, 1}, {1, api.MaxCount}}, nil, nil, {{1, 1}}}) {
		t.Errorf("%v, %v", m, err)
	}
	o.Vars[0] = 1
	if m, err := Needs(n, o); err != api.ErrFull || m != nil {
		t.Errorf("%v, %v", m, err)
	}
	o = api.Mode{Vars: []int{0}, Outs: append(slices.Clone(most), 0)}
	if m, err := Gives(n, o); err != api.ErrFull || m != nil {
		t.Errorf("%v, %v", m, err)
	}
	o.Outs = append(o.Outs, 3)
	if m, err := Gives(n, o); err != api.ErrZero || m != nil {
		t.Errorf("%v, %v", m, err)
	}
}

// tried is what Check is asked about.
type tried struct {
	net api.Net
	m   api.Marking
	o   api.Mode
}

// plain can be done: of the three places that it can take from one has no token, and it gives to one of two.
func plain() tried {
	n := drawn()
	arcs := func(expr int) []api.Arc {
		return []api.Arc{{Place: 0, Expr: num(expr)}, {Place: 1, Expr: num(1)}, {Place: 3, Expr: num(expr)}}
	}
	n.Tasks[0].Join, n.Tasks[0].Split = api.Some, api.One
	n.Tasks[0].Ins, n.Tasks[0].Outs = arcs(4), arcs(5)
	return tried{n, api.Marking{{{1, 1}}, {{1, 2}}, nil, nil}, api.Mode{Vars: []int{0}, Ins: []int{0, 1}, Outs: []int{0}}}
}

// faults is what may be wrong, in the order in which it is told; what has one word of what it changes can't be wrong together.
func faults() []struct {
	what  string
	err   api.Errno
	spoil func(*tried)
} {
	return []struct {
		what  string
		err   api.Errno
		spoil func(*tried)
	}{
		{"task", api.ErrNone, func(x *tried) { x.o.Task = 1 }},
		{"vars", api.ErrArg, func(x *tried) { x.o.Vars = nil }},
		{"vars", api.ErrArg, func(x *tried) { x.o.Vars = []int{4} }},
		{"guard", api.ErrZero, func(x *tried) { x.net.Tasks[0].Guard = byNone }},
		{"guard", api.ErrGuard, func(x *tried) { x.net.Tasks[0].Guard = num(0) }},
		{"ins", api.ErrMode, func(x *tried) { x.o.Ins = []int{1, 0} }},
		{"outs", api.ErrMode, func(x *tried) { x.o.Outs = []int{0, 1} }},
		{"arc 0", api.ErrOver, func(x *tried) { x.net.Tasks[0].Ins[0].Expr = over }},
		{"arc 1", api.ErrType, func(x *tried) { x.net.Tasks[0].Ins[1].Expr = num(2) }},
		{"tokens", api.ErrToken, func(x *tried) { x.m[0] = api.Bag{{0, 1}, {2, 1}} }},
		{"more", api.ErrMode, func(x *tried) { x.m[3] = api.Bag{{1, 1}} }},
		{"out", api.ErrZero, func(x *tried) { x.net.Tasks[0].Outs[0].Expr = byNone }},
		{"out", api.ErrType, func(x *tried) { x.net.Tasks[0].Outs[0].Expr = num(7) }},
	}
}

// P10.3: each fault alone, and each two of them.
func TestCheckTellsTheFirst(t *testing.T) {
	if x := plain(); Check(x.net, x.m, x.o) != api.OK {
		t.Fatal(Check(x.net, x.m, x.o))
	}
	for i, a := range faults() {
		x := plain()
		a.spoil(&x)
		if err := Check(x.net, x.m, x.o); err != a.err {
			t.Errorf("%s: %v, not %v", a.what, err, a.err)
		}
		for _, b := range faults()[:i] {
			if a.what == b.what {
				continue
			}
			x := plain()
			a.spoil(&x)
			b.spoil(&x)
			if err := Check(x.net, x.m, x.o); err != b.err {
				t.Errorf("%s and %s: %v, not %v", b.what, a.what, err, b.err)
			}
		}
	}
}

// P10.3: joins and splits of each kind.
func TestCheckChoices(t *testing.T) {
	n := drawn(api.Arc{Place: 0, Expr: num(3)}, api.Arc{Place: 0, Expr: num(4)}, api.Arc{Place: 1, Expr: num(0)})
	m := api.Marking{{{0, 1}, {1, 1}}, {{0, 1}}, nil, nil}
	for _, rows := range []struct {
		kind    int
		ins     [][]int
		outs    [][]int
		neither [][]int
	}{
		{api.All, [][]int{{0, 1, 2}}, [][]int{{0, 1, 2}}, [][]int{nil, {0}, {0, 1}, {0, 2, 1}, {0, 1, 2, 3}, {0, 1, 2, 2}, {0, 0, 1, 2}, {-1, 0, 1}}},
		{api.One, [][]int{{0}, {1}, {2}}, [][]int{{0}, {1}, {2}}, [][]int{nil, {0, 1}, {0, 1, 2}, {0, 0}, {3}, {-1}, {api.MaxInt}, {api.MinInt}}},
		{api.Some, [][]int{{0, 1, 2}}, [][]int{{0}, {1}, {2}, {0, 1}, {1, 2}, {0, 2}, {0, 1, 2}}, [][]int{nil, {1, 0}, {0, 0}, {0, 1, 1}, {3}, {2, 3}, {-1, 0}, {2, 1, 0}}},
		{0, nil, nil, [][]int{nil, {0}, {0, 1, 2}}},
		{4, nil, nil, [][]int{nil, {0}, {0, 1, 2}}},
	} {
		n.Tasks[0].Join, n.Tasks[0].Split = rows.kind, api.One
		for _, which := range rows.ins {
			if err := Check(n, m, api.Mode{Vars: []int{0}, Ins: which, Outs: []int{2}}); err != api.OK {
				t.Errorf("join %d of %v: %v", rows.kind, which, err)
			}
		}
		for _, which := range rows.neither {
			if err := Check(n, m, api.Mode{Vars: []int{0}, Ins: which, Outs: []int{2}}); err != api.ErrMode {
				t.Errorf("join %d of %v: %v", rows.kind, which, err)
			}
		}
		n.Tasks[0].Join, n.Tasks[0].Split = api.One, rows.kind
		for _, which := range rows.outs {
			if err := Check(n, m, api.Mode{Vars: []int{0}, Ins: []int{2}, Outs: which}); err != api.OK {
				t.Errorf("split %d of %v: %v", rows.kind, which, err)
			}
		}
		for _, which := range rows.neither {
			if err := Check(n, m, api.Mode{Vars: []int{0}, Ins: []int{2}, Outs: which}); err != api.ErrMode {
				t.Errorf("split %d of %v: %v", rows.kind, which, err)
			}
		}
	}
}

// P10.3, P10.4: joins and splits of no arc, one and several.
func TestArcs(t *testing.T) {
	ways := map[int][]int{api.All: {1, 1, 1, 1}, api.One: {0, 1, 2, 3}, api.Some: {0, 1, 3, 7}, 0: {0, 0, 0, 0}, 4: {0, 0, 0, 0}}
	m := api.Marking{{{0, 1}, {1, 1}, {2, 1}}, nil, nil, nil}
	for kind, counts := range ways {
		for arcs, want := range counts {
			n := drawn(api.Arc{Place: 0, Expr: num(3)})
			n.Tasks[0].Vars = nil
			n.Tasks[0].Split, n.Tasks[0].Outs = kind, nil
			for i := range arcs {
				n.Tasks[0].Outs = append(n.Tasks[0].Outs, api.Arc{Place: 0, Expr: num(3 + i)})
			}
			l := Modes(n, m, 0, 100)
			if len(l) != want {
				t.Errorf("split %d of %d: %+v", kind, arcs, l)
			}
			none := Check(n, m, api.Mode{Ins: []int{0}})
			if is := kind == api.All && arcs == 0; is != (none == api.OK) || !is && none != api.ErrMode {
				t.Errorf("split %d of %d: %v", kind, arcs, none)
			}
			task := &n.Tasks[0]
			task.Join, task.Split, task.Ins, task.Outs = kind, api.All, task.Outs, task.Ins
			// A join of some takes all that it can.
			if kind == api.Some {
				want = min(want, 1)
			}
			if l := Modes(n, m, 0, 100); len(l) != want {
				t.Errorf("join %d of %d: %+v", kind, arcs, l)
			}
			none = Check(n, m, api.Mode{Outs: []int{0}})
			if is := kind == api.All && arcs == 0; is != (none == api.OK) || !is && none != api.ErrMode {
				t.Errorf("join %d of %d: %v", kind, arcs, none)
			}
		}
	}
}

// P10.3: a join of Some takes all that it can, one by one; what tells an error, or is no member, it can't.
func TestCheckSome(t *testing.T) {
	three, four, five, red := api.Arc{Place: 0, Expr: num(3)}, api.Arc{Place: 0, Expr: num(4)}, api.Arc{Place: 0, Expr: num(5)}, api.Arc{Place: 1, Expr: num(0)}
	for _, x := range []struct {
		what string
		arcs []api.Arc
		m    api.Marking
		want [][]int
	}{
		{"one token for two", []api.Arc{three, three}, api.Marking{{{0, 1}}, nil, nil, nil}, [][]int{{0}, {1}}},
		{"two tokens for two", []api.Arc{three, three}, api.Marking{{{0, 2}}, nil, nil, nil}, [][]int{{0, 1}}},
		{"two tokens for three", []api.Arc{three, three, three}, api.Marking{{{0, 2}}, nil, nil, nil}, [][]int{{0, 1}, {0, 2}, {1, 2}}},
		{"one of each", []api.Arc{three, four, red}, api.Marking{{{0, 1}, {1, 1}}, {{0, 1}}, nil, nil}, [][]int{{0, 1, 2}}},
		{"the middle one is not there", []api.Arc{three, four, red}, api.Marking{{{0, 1}, {2, 1}}, {{0, 1}}, nil, nil}, [][]int{{0, 2}}},
		{"the last one is there alone", []api.Arc{three, four, red}, api.Marking{nil, {{0, 9}}, nil, nil}, [][]int{{2}}},
		{"none is there", []api.Arc{three, four, red}, api.Marking{{{2, 1}}, {{1, 1}}, nil, nil}, nil},
		{"one that tells an error", []api.Arc{divided, four, toOver}, api.Marking{{{0, 5}, {1, 5}}, nil, nil, nil}, [][]int{{1}}},
		{"one that is no member", []api.Arc{four, toNone}, api.Marking{{{0, 5}, {1, 5}}, nil, nil, nil}, [][]int{{0}}},
		{"one alone", []api.Arc{five}, api.Marking{{{2, 5}}, nil, nil, nil}, [][]int{{0}}},
		{"all four", []api.Arc{five, four, three, red}, api.Marking{{{0, 1}, {1, 1}, {2, 1}}, {{0, 1}}, nil, nil}, [][]int{{0, 1, 2, 3}}},
		{"five are none", []api.Arc{five, four, three, red, red}, api.Marking{{{0, 1}, {1, 1}, {2, 1}}, {{0, 1}}, nil, nil}, nil},
	} {
		n := drawn(x.arcs...)
		n.Tasks[0].Join, n.Tasks[0].Outs = api.Some, []api.Arc{red}
		var l [][]int
		for _, o := range Modes(n, x.m, 0, 100) {
			if o.Vars[0] == 0 {
				l = append(l, o.Ins)
			}
		}
		if !slices.EqualFunc(l, x.want, func(a, b []int) bool { return slices.Equal(a, b) }) {
			t.Errorf("%s: %v", x.what, l)
		}
	}
}

// P10.3: tokens are asked for place by place, so that a marking has to have all places.
func TestCheckTokens(t *testing.T) {
	n := drawn(api.Arc{Place: 0, Expr: num(3)}, api.Arc{Place: 0, Expr: num(3)}, api.Arc{Place: 1, Expr: num(1)})
	o := api.Mode{Vars: []int{0}, Ins: []int{0, 1, 2}, Outs: []int{0, 1, 2}}
	for _, x := range []struct {
		m    api.Marking
		want api.Errno
	}{
		{api.Marking{{{0, 2}}, {{1, 1}}, nil, nil}, api.OK},
		{api.Marking{{{0, api.MaxCount}, {1, 1}}, {{0, 1}, {1, 2}}, {{7, 1}}, {{0, 1}}}, api.OK},
		{api.Marking{{{0, 1}}, {{1, 1}}, nil, nil}, api.ErrToken},
		{api.Marking{{{1, 2}}, {{1, 1}}, nil, nil}, api.ErrToken},
		{api.Marking{{{0, 2}}, {{0, 1}}, nil, nil}, api.ErrToken},
		{api.Marking{{{1, 1}}, {{0, 2}}, nil, nil}, api.ErrToken},
		{api.Marking{nil, {{1, 1}}, nil, {{0, 2}}}, api.ErrToken},
		{api.Marking{nil, nil, nil, nil}, api.ErrToken},
		{api.Marking{{{0, 2}}, {{1, 1}}, nil}, api.ErrToken},
		{api.Marking{{{0, 2}}, {{1, 1}}, nil, nil, nil}, api.ErrToken},
		{nil, api.ErrToken},
	} {
		if err := Check(n, x.m, o); err != x.want {
			t.Errorf("%v: %v", x.m, err)
		}
	}
}

// P10.3: guards are told by their numbers, whatever these are.
func TestCheckGuard(t *testing.T) {
	n := drawn(api.Arc{Place: 0, Expr: num(3)})
	m := api.Marking{{{0, 1}}, nil, nil, nil}
	for guard, want := range map[*api.Expr]api.Errno{
		{Kind: api.ENum, Num: 1}: api.OK, {Kind: api.ENum, Num: -7}: api.OK, {Kind: api.ENum, Num: api.MinInt}: api.OK, {Kind: api.ENum}: api.ErrGuard,
		{Kind: api.EVar}: api.OK, {Kind: api.EVar, Num: 1}: api.ErrArg, {}: api.ErrArg, &over: api.ErrOver, &byNone: api.ErrZero,
	} {
		n.Tasks[0].Guard = *guard
		if err := Check(n, m, api.Mode{Vars: []int{2}, Ins: []int{0}, Outs: []int{0}}); err != want {
			t.Errorf("%+v: %v, not %v", *guard, err, want)
		}
		if l := Modes(n, m, 0, 9); len(l) > 0 != (want == api.OK) {
			t.Errorf("%+v: %v", *guard, l)
		}
	}
}

// P10.4: the document's example.
func TestExample(t *testing.T) {
	n := load(t, "colour n = int 0 .. 3; place a: n; place b: n; task t { var x: n; in a(x); out b(0); } from a; to b;")
	l := Modes(n, api.Marking{{{0, 1}, {2, 1}}, nil}, 0, 100)
	want := []api.Mode{{Vars: []int{0}, Ins: []int{0}, Outs: []int{0}}, {Vars: []int{2}, Ins: []int{0}, Outs: []int{0}}}
	if !allAlike(l, want) {
		t.Errorf("%+v", l)
	}
}

// P10.4: variables first, the first one counting most, then Ins, then Outs; at most so many.
func TestModesInOrder(t *testing.T) {
	n := load(t, "colour n = int 5 .. 6; place a: n; place b: n; place d: n; "+
		"task t { var x: n; var y: n; join xor; split or; in a(x); in b(y); out d(x); out d(y); } "+
		"task u { in b(5); out d(5); } task v { split xor; in a(6); out b(6); out d(5); } from a; to d;")
	m := api.Marking{{{0, 1}, {1, 1}}, {{0, 1}}, nil}
	var want []api.Mode
	for _, row := range [][]int{{0, 0, 0}, {0, 0, 1}, {0, 1, 0}, {1, 0, 0}, {1, 0, 1}, {1, 1, 0}} {
		for _, outs := range [][]int{{0}, {1}, {0, 1}} {
			want = append(want, api.Mode{Vars: row[:2], Ins: row[2:], Outs: outs})
		}
	}
	all := append(slices.Clone(want), api.Mode{Task: 1, Ins: []int{0}, Outs: []int{0}}, api.Mode{Task: 2, Ins: []int{0}, Outs: []int{0}}, api.Mode{Task: 2, Ins: []int{0}, Outs: []int{1}})
	if l := Modes(n, m, 0, 18); !allAlike(l, want) {
		t.Errorf("%+v", l)
	}
	if l := Modes(n, m, 1, 18); !allAlike(l, all[18:19]) {
		t.Errorf("%+v", l)
	}
	if l := Modes(n, m, 2, 18); !allAlike(l, all[19:]) {
		t.Errorf("%+v", l)
	}
	for _, most := range []int{api.MinInt, -1, 0, 1, 2, 3, 17, 18, 19, 20, 21, 22, api.MaxInt} {
		if l := Modes(n, m, 0, most); !allAlike(l, want[:max(0, min(most, 18))]) {
			t.Errorf("%d: %+v", most, l)
		}
		if l := All(n, m, most); !allAlike(l, all[:max(0, min(most, 21))]) {
			t.Errorf("%d: %+v", most, l)
		}
	}
	for _, task := range []int{-1, 3, api.MaxInt, api.MinInt} {
		if l := Modes(n, m, task, 9); len(l) != 0 {
			t.Errorf("%d: %+v", task, l)
		}
	}
	if l := All(api.Net{}, nil, 9); len(l) != 0 {
		t.Errorf("%+v", l)
	}
}

// P10.4: as many ways as there may be are gone through.
func TestModesOfMany(t *testing.T) {
	n := drawn(api.Arc{Place: 0, Expr: num(3)})
	n.Colours = append(n.Colours, api.Colour{Name: "great", Kind: api.CInt, Lo: -500, Hi: 523})
	n.Colours = append(n.Colours, api.Colour{Name: "one", Kind: api.CInt, Lo: 7, Hi: 7})
	m := api.Marking{{{0, 1}}, nil, nil, nil}
	for _, colours := range [][]int{{3}, {1, 1, 1, 1, 1, 1, 1, 1, 1, 1}, {0, 2, 0, 2}, {4, 3, 4, 4}, {4, 4, 4, 4, 4, 4, 4, 4, 4, 4, 4, 4, 4, 4, 4, 3}} {
		n.Tasks[0].Vars = nil
		for i, k := range colours {
			n.Tasks[0].Vars = append(n.Tasks[0].Vars, api.Var{Name: "x" + string(rune('a'+i)), Colour: k})
		}
		l := Modes(n, m, 0, 5000)
		if err := check.Task(n, 0); err != api.OK || len(l) != api.MaxBinds {
			t.Fatalf("%v: %v, %d", colours, err, len(l))
		}
		if !slices.IsSortedFunc(l, func(a, b api.Mode) int { return slices.Compare(a.Vars, b.Vars) }) {
			t.Errorf("%v: %v", colours, l)
		}
		for i := 1; i < len(l); i++ {
			if slices.Equal(l[i].Vars, l[i-1].Vars) {
				t.Errorf("%v: %v twice", colours, l[i])
			}
		}
	}
	n.Tasks[0].Vars = nil
	n.Tasks[0].Join, n.Tasks[0].Split = api.One, api.One
	n.Tasks[0].Ins = slices.Repeat(n.Tasks[0].Ins, api.MaxArcs)
	n.Tasks[0].Outs = n.Tasks[0].Ins
	if l := Modes(n, m, 0, 5000); len(l) != 256 || l[255].Ins[0] != 15 || l[255].Outs[0] != 15 || l[17].Ins[0] != 1 || l[17].Outs[0] != 1 {
		t.Errorf("%+v", l)
	}
}

// P10.4: variables are counted like digits, till whoever asks has enough.
func TestDigits(t *testing.T) {
	for _, x := range []struct {
		bases []int
		want  [][]int
	}{
		{nil, [][]int{{}}},
		{[]int{1}, [][]int{{0}}},
		{[]int{3}, [][]int{{0}, {1}, {2}}},
		{[]int{2, 3}, [][]int{{0, 0}, {0, 1}, {0, 2}, {1, 0}, {1, 1}, {1, 2}}},
		{[]int{2, 1, 2}, [][]int{{0, 0, 0}, {0, 0, 1}, {1, 0, 0}, {1, 0, 1}}},
	} {
		var l [][]int
		for row := range digits(x.bases) {
			l = append(l, slices.Clone(row))
		}
		if !slices.EqualFunc(l, x.want, func(a, b []int) bool { return slices.Equal(a, b) }) {
			t.Errorf("%v: %v", x.bases, l)
		}
		for stop := range x.want {
			rows := 0
			for row := range digits(x.bases) {
				if !slices.Equal(row, x.want[rows]) {
					t.Errorf("%v: %v", x.bases, row)
				}
				if rows++; rows > stop {
					break
				}
			}
		}
	}
}

// P10.4: unlike in any one part.
func TestSame(t *testing.T) {
	a := func() api.Mode { return api.Mode{Task: 1, Vars: []int{1, 2}, Ins: []int{0, 3}, Outs: []int{4}} }
	unlike := []api.Mode{{}, {Task: 1}}
	for _, spoil := range []func(*api.Mode){
		func(o *api.Mode) { o.Task = 2 }, func(o *api.Mode) { o.Task = -1 },
		func(o *api.Mode) { o.Vars = nil }, func(o *api.Mode) { o.Vars[0] = 0 }, func(o *api.Mode) { o.Vars[1] = 9 }, func(o *api.Mode) { o.Vars = o.Vars[:1] },
		func(o *api.Mode) { o.Vars = append(o.Vars, 0) }, func(o *api.Mode) { slices.Reverse(o.Vars) },
		func(o *api.Mode) { o.Ins = nil }, func(o *api.Mode) { o.Ins[0] = 1 }, func(o *api.Mode) { o.Ins[1] = 9 }, func(o *api.Mode) { o.Ins = append(o.Ins, 4) },
		func(o *api.Mode) { o.Outs = nil }, func(o *api.Mode) { o.Outs[0] = 5 }, func(o *api.Mode) { o.Outs = append(o.Outs, 4) },
		func(o *api.Mode) { o.Ins, o.Outs = o.Outs, o.Ins }, func(o *api.Mode) { o.Vars, o.Ins = o.Ins, o.Vars }, func(o *api.Mode) { o.Vars, o.Outs = o.Outs, o.Vars },
	} {
		o := a()
		spoil(&o)
		unlike = append(unlike, o)
	}
	for i, x := range unlike {
		if Same(a(), x) || Same(x, a()) {
			t.Errorf("%d: %+v", i, x)
		}
		for j, y := range unlike {
			if Same(x, y) != alike(x, y) || !Same(x, x) || i == j && !Same(x, y) {
				t.Errorf("%+v, %+v", x, y)
			}
		}
	}
	if !Same(a(), a()) || !Same(api.Mode{}, api.Mode{Vars: []int{}, Ins: []int{}, Outs: []int{}}) {
		t.Error("the same ones")
	}
}

// P10.1 to P10.4, P10.6: all calls against a second telling.
func TestAgainstSecond(t *testing.T) {
	r := made{rand.New(rand.NewSource(10))}
	errs, modes := map[api.Errno]int{}, 0
	for range 3000 {
		n := r.net()
		if part, err := check.Net(n); err != api.OK {
			t.Fatalf("%+v: %v", part, err)
		}
		m := r.marking(n)
		for range 6 {
			o := r.mode(n)
			if i := r.Intn(40); i < 10 {
				if l := told.all(n, m); len(l) > 0 {
					o = pick(r.Rand, l...)
				}
			} else if i < 16 {
				o = r.mode(r.net())
			}
			env, err := Env(n, o.Task, o.Vars)
			if want, e := told.env(n, o.Task, o.Vars); err != e || !slices.Equal(env, want) {
				t.Fatalf("%+v, %+v: Env %v, %v", n, o, env, err)
			}
			need, err := Needs(n, o)
			if want, e := told.needs(n, o); err != e || !sameRows(need, want) {
				t.Fatalf("%+v, %+v: Needs %v, %v", n, o, need, err)
			}
			give, err := Gives(n, o)
			if want, e := told.gives(n, o); err != e || !sameRows(give, want) {
				t.Fatalf("%+v, %+v: Gives %v, %v", n, o, give, err)
			}
			err = Check(n, m, o)
			if want := told.check(n, m, o); err != want {
				t.Fatalf("%+v, %v, %+v: %v, not %v", n, m, o, err, want)
			}
			errs[err]++
		}
		all := told.all(n, m)
		modes += len(all)
		if l := All(n, m, len(all)+1); !allAlike(l, all) {
			t.Fatalf("%+v, %v: %+v, not %+v", n, m, l, all)
		}
		most := r.Intn(len(all)+3) - 1
		if l := All(n, m, most); !allAlike(l, all[:max(0, min(most, len(all)))]) {
			t.Fatalf("%+v, %v: %d: %+v, not %+v", n, m, most, l, all)
		}
		for task := range n.Tasks {
			if l, want := Modes(n, m, task, api.MaxInt), told.modes(n, m, task); !allAlike(l, want) {
				t.Fatalf("%+v, %v: %+v, not %+v", n, m, l, want)
			}
		}
	}
	for _, err := range []api.Errno{api.OK, api.ErrArg, api.ErrNone, api.ErrOver, api.ErrZero, api.ErrType, api.ErrGuard, api.ErrToken, api.ErrMode} {
		if errs[err] < 20 {
			t.Errorf("%v: %d", err, errs[err])
		}
	}
	if modes < 3000 {
		t.Errorf("%d modes", modes)
	}
}

// P10.6
func TestModesAreApart(t *testing.T) {
	r := made{rand.New(rand.NewSource(11))}
	for range 2000 {
		n := r.net()
		l := All(n, r.marking(n), api.MaxInt)
		for i, a := range l {
			for _, b := range l[:i] {
				if Same(a, b) || Same(b, a) {
					t.Fatalf("%+v: %+v twice", n, a)
				}
			}
		}
	}
}

// P10.6: more tokens enable what was enabled, where no join is of some; where one is, they need not.
func TestMoreTokens(t *testing.T) {
	r := made{rand.New(rand.NewSource(12))}
	kept, lost := 0, 0
	for range 6000 {
		n := r.net()
		m := r.marking(n)
		more := r.more(n, m)
		if !slices.EqualFunc(m, more, bag.Within) {
			t.Fatalf("%v, %v", m, more)
		}
		l := All(n, more, api.MaxInt)
		for _, o := range All(n, m, api.MaxInt) {
			is := Check(n, more, o) == api.OK
			if is != slices.ContainsFunc(l, func(x api.Mode) bool { return Same(o, x) }) {
				t.Fatalf("%+v, %v: %+v", n, more, o)
			}
			switch {
			case is:
				kept++
			case n.Tasks[o.Task].Join != api.Some:
				t.Fatalf("%+v, %v, %v: %+v", n, m, more, o)
			default:
				lost++
			}
		}
	}
	if kept < 5000 || lost < 50 {
		t.Errorf("%d kept, %d lost", kept, lost)
	}
}
