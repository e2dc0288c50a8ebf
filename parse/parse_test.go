package parse

import (
	"math/rand"
	"reflect"
	"slices"
	"strconv"
	"strings"
	"testing"
	"unsafe"

	"baldric/api"
	"baldric/bag"
	"baldric/calc"
	"baldric/expr"
	"baldric/token"
)

func num(n int) api.Expr            { return api.Expr{Kind: api.ENum, Num: n} }
func vari(n int) api.Expr           { return api.Expr{Kind: api.EVar, Num: n} }
func neg(e api.Expr) api.Expr       { return api.Expr{Kind: api.ENeg, Kids: []api.Expr{e}} }
func not(e api.Expr) api.Expr       { return api.Expr{Kind: api.ENot, Kids: []api.Expr{e}} }
func iff(a, b, c api.Expr) api.Expr { return api.Expr{Kind: api.EIf, Kids: []api.Expr{a, b, c}} }
func bin(o int, a, b api.Expr) api.Expr {
	return api.Expr{Kind: api.EBin, Num: o, Kids: []api.Expr{a, b}}
}

// ahead is what most texts need ahead of what they are about, tail what ends a net.
const (
	ahead = "colour n = int 0 .. 3; colour c = enum red, blue; place a: n; place b: c; "
	tail  = " from a; to b;"
)

// netOf is the net of a text, which must be one.
func netOf(t *testing.T, s string) api.Net {
	t.Helper()
	n, at, err := Text(s)
	if err != api.OK || at != len(s) {
		t.Fatalf("Text(%q): %d, %v", s, at, err)
	}
	return n
}

// taskOf is the one task of a net, which has these clauses.
func taskOf(t *testing.T, clauses string) api.Task {
	t.Helper()
	n := netOf(t, ahead+"task t { "+clauses+" }"+tail)
	if len(n.Tasks) != 1 || n.Tasks[0].Name != "t" {
		t.Fatalf("%q: %+v", clauses, n.Tasks)
	}
	return n.Tasks[0]
}

// marked is a text without its @, and where that stood.
func marked(s string) (string, int) {
	at := strings.Index(s, "@")
	return s[:at] + s[at+1:], at
}

// refused asks that Text tells an error, and nothing else, where the text has an @.
func refused(t *testing.T, err api.Errno, texts ...string) {
	t.Helper()
	for _, m := range texts {
		s, at := marked(m)
		n, where, e := Text(s)
		if where != at || e != err || !reflect.DeepEqual(n, api.Net{}) {
			t.Errorf("Text(%q): %d, %v, not %d, %v; %+v", s, where, e, at, err, n)
		}
	}
}

// refusedTask is refused of a task's clauses.
func refusedTask(t *testing.T, err api.Errno, clauses ...string) {
	t.Helper()
	for _, m := range clauses {
		refused(t, err, ahead+"task t { "+m+"}"+tail)
	}
}

// refusedNet asks that Net tells an error, and nothing else.
func refusedNet(t *testing.T, l []api.Token, end, at int, err api.Errno) {
	t.Helper()
	n, where, e := Net(l, end)
	if where != at || e != err || !reflect.DeepEqual(n, api.Net{}) {
		t.Errorf("Net(%v, %d): %d, %v, not %d, %v; %+v", l, end, where, e, at, err, n)
	}
}

// exprOf is the expression of a text, of the variables x, y and z.
func exprOf(s string) (api.Expr, int, api.Errno) {
	l, end, err := token.Lex(s)
	if err != api.OK {
		panic(s)
	}
	return Expr(l, end, []string{"x", "y", "z"})
}

// refusedExpr asks that Expr tells an error, and nothing else, where the text has an @.
func refusedExpr(t *testing.T, err api.Errno, texts ...string) {
	t.Helper()
	for _, m := range texts {
		s, at := marked(m)
		e, where, fault := exprOf(s)
		if where != at || fault != err || !reflect.DeepEqual(e, api.Expr{}) {
			t.Errorf("Expr of %q: %d, %v, not %d, %v; %+v", s, where, fault, at, err, e)
		}
	}
}

// P6.1
func TestNet(t *testing.T) {
	got := netOf(t, `colour n = int -1 .. 3; colour c = enum red, blue; # colours
		place a: n = 2, 0*2, 1*0, 0;
		colour p = pair c, n; place b: p;
		task t { var x: n; var y: p; when x < 3; join or; split xor; in a(x); in a(0); out b(-y); cancel b; cancel a; cancel b; after 5; many 1, 3, 2; }
		task u { } place z: n = 7; from z; to a;`)
	want := api.Net{
		Colours: []api.Colour{
			{Name: "n", Kind: api.CInt, Lo: -1, Hi: 3},
			{Name: "c", Kind: api.CEnum, Names: []string{"red", "blue"}},
			{Name: "p", Kind: api.CPair, First: 1, Then: 0},
		},
		Places: []api.Place{
			{Name: "a", Colour: 0, First: api.Bag{{0, 3}, {2, 1}}},
			{Name: "b", Colour: 2},
			{Name: "z", Colour: 0, First: api.Bag{{7, 1}}},
		},
		Tasks: []api.Task{
			{
				Name: "t", Vars: []api.Var{{Name: "x", Colour: 0}, {Name: "y", Colour: 2}},
				Guard: bin(api.Lt, vari(0), num(3)), Join: api.Some, Split: api.One,
				Ins:    []api.Arc{{Place: 0, Expr: vari(0)}, {Place: 0, Expr: num(0)}},
				Outs:   []api.Arc{{Place: 1, Expr: neg(vari(1))}},
				Cancel: []int{1, 0, 1}, After: 5, Many: [3]int{1, 3, 2},
			},
			{Name: "u", Guard: num(1), Join: api.All, Split: api.All},
		},
		From: 2, To: 0,
	}
	if !reflect.DeepEqual(got, want) {
		t.Errorf("%+v\nnot\n%+v", got, want)
	}
}

// P6.1
func TestNetColours(t *testing.T) {
	for s, want := range map[string]api.Colour{
		"int 0 .. 0":     {Kind: api.CInt},
		"int 2..5":       {Kind: api.CInt, Lo: 2, Hi: 5},
		"int -3 .. -1":   {Kind: api.CInt, Lo: -3, Hi: -1},
		"int - 3 .. - 0": {Kind: api.CInt, Lo: -3},
		"int 7 .. -7":    {Kind: api.CInt, Lo: 7, Hi: -7},
		"int -9223372036854775807 .. 9223372036854775807": {Kind: api.CInt, Lo: -api.MaxInt, Hi: api.MaxInt},
		"enum k":          {Kind: api.CEnum, Names: []string{"k"}},
		"enum k, k":       {Kind: api.CEnum, Names: []string{"k", "k"}},
		"enum n, z, m, x": {Kind: api.CEnum, Names: []string{"n", "z", "m", "x"}},
		"pair n, n":       {Kind: api.CPair},
		"pair n, m":       {Kind: api.CPair, Then: 1},
		"pair m, n":       {Kind: api.CPair, First: 1},
	} {
		n := netOf(t, "colour n = int 0 .. 1; colour m = enum a; colour k = "+s+"; place p: k; from p; to p;")
		want.Name = "k"
		if len(n.Colours) != 3 || !reflect.DeepEqual(n.Colours[2], want) || n.Places[0].Colour != 2 {
			t.Errorf("%q: %+v", s, n)
		}
	}
}

// P6.1
func TestNetFirst(t *testing.T) {
	for s, want := range map[string]api.Bag{
		"":                       nil,
		"= 0":                    {{0, 1}},
		"= 0*1":                  {{0, 1}},
		"= 5*0":                  nil,
		"= 5*0, 5*0":             nil,
		"= 5*0, 5":               {{5, 1}},
		"= 5, 5*0":               {{5, 1}},
		"= 3, 2, 1":              {{1, 1}, {2, 1}, {3, 1}},
		"= 3, 3, 3":              {{3, 3}},
		"= 3*2, 1, 3*4, 1*0, 0":  {{0, 1}, {1, 1}, {3, 6}},
		"= 1*1048575":            {{1, api.MaxCount - 1}},
		"= 1*1048576":            {{1, api.MaxCount}},
		"= 1*1048577":            {{1, api.MaxCount}},
		"= 1*1048575, 1":         {{1, api.MaxCount}},
		"= 1*1048576, 1":         {{1, api.MaxCount}},
		"= 1, 1*1048576":         {{1, api.MaxCount}},
		"= 1*1048575, 2*3, 1*9":  {{1, api.MaxCount}, {2, 3}},
		"= 1*1048576, 0*1048576": {{0, api.MaxCount}, {1, api.MaxCount}},
		"= 1*9223372036854775807, 1*9223372036854775807, 1*5": {{1, api.MaxCount}},
		"= 9223372036854775807, 0*7":                          {{0, 7}, {api.MaxInt, 1}},
		"= 1048577*2":                                         {{api.MaxCount + 1, 2}},
	} {
		n := netOf(t, "colour n = int 0 .. 3; place a: n "+s+"; from a; to a;")
		if len(n.Places) != 1 || !slices.Equal(n.Places[0].First, want) || !bag.Right(n.Places[0].First) {
			t.Errorf("%q: %v", s, n.Places)
		}
	}
}

// P6.1: First is what bag.Of tells.
func TestNetFirstIsOf(t *testing.T) {
	r := rand.New(rand.NewSource(61))
	for range 40 {
		var few []string
		var all []int
		for range 1 + r.Intn(4) {
			m, count := r.Intn(4), pick(r, 0, 1, 2, 9, api.MaxCount-1-r.Intn(3), api.MaxCount, api.MaxCount+r.Intn(3))
			few = append(few, strconv.Itoa(m)+"*"+strconv.Itoa(count))
			all = append(all, slices.Repeat([]int{m}, count)...)
		}
		s := "colour n = int 0 .. 3; place a: n = " + strings.Join(few, ", ") + "; from a; to a;"
		if n, want := netOf(t, s), bag.Of(all...); !slices.Equal(n.Places[0].First, want) {
			t.Errorf("%q: %v, not %v", s, n.Places[0].First, want)
		}
	}
}

// P6.1: what is told where a clause says nothing else, and what each clause says.
func TestNetTask(t *testing.T) {
	plain := func() api.Task { return api.Task{Name: "t", Guard: num(1), Join: api.All, Split: api.All} }
	for s, put := range map[string]func(*api.Task){
		"":                           func(k *api.Task) {},
		"var x: c;":                  func(k *api.Task) { k.Vars = []api.Var{{Name: "x", Colour: 1}} },
		"when 0;":                    func(k *api.Task) { k.Guard = num(0) },
		"when 1;":                    func(k *api.Task) {},
		"join and;":                  func(k *api.Task) {},
		"join xor;":                  func(k *api.Task) { k.Join = api.One },
		"join or;":                   func(k *api.Task) { k.Join = api.Some },
		"split and;":                 func(k *api.Task) {},
		"split xor;":                 func(k *api.Task) { k.Split = api.One },
		"split or;":                  func(k *api.Task) { k.Split = api.Some },
		"in b(2);":                   func(k *api.Task) { k.Ins = []api.Arc{{Place: 1, Expr: num(2)}} },
		"out b(2);":                  func(k *api.Task) { k.Outs = []api.Arc{{Place: 1, Expr: num(2)}} },
		"cancel b;":                  func(k *api.Task) { k.Cancel = []int{1} },
		"after 0;":                   func(k *api.Task) {},
		"after 9;":                   func(k *api.Task) { k.After = 9 },
		"after 9223372036854775807;": func(k *api.Task) { k.After = api.MaxInt },
		"many 0, 0, 0;":              func(k *api.Task) {},
		"many 4, 5, 6;":              func(k *api.Task) { k.Many = [3]int{4, 5, 6} },
		"many 9223372036854775807, 1048577, 65537;": func(k *api.Task) { k.Many = [3]int{api.MaxInt, api.MaxCount + 1, api.MaxAfter + 1} },
		"var x: n; var y: c; when y; in a(x);": func(k *api.Task) {
			k.Vars = []api.Var{{Name: "x", Colour: 0}, {Name: "y", Colour: 1}}
			k.Guard, k.Ins = vari(1), []api.Arc{{Place: 0, Expr: vari(0)}}
		},
		"var x: n; in a(x); var y: n; in b(y); in a(x);": func(k *api.Task) {
			k.Vars = []api.Var{{Name: "x", Colour: 0}, {Name: "y", Colour: 0}}
			k.Ins = []api.Arc{{Place: 0, Expr: vari(0)}, {Place: 1, Expr: vari(1)}, {Place: 0, Expr: vari(0)}}
		},
		"out b(1); in a(2); out a(3); in b(4); out b(1);": func(k *api.Task) {
			k.Ins = []api.Arc{{Place: 0, Expr: num(2)}, {Place: 1, Expr: num(4)}}
			k.Outs = []api.Arc{{Place: 1, Expr: num(1)}, {Place: 0, Expr: num(3)}, {Place: 1, Expr: num(1)}}
		},
		"cancel b; cancel a; cancel b; cancel b;": func(k *api.Task) { k.Cancel = []int{1, 0, 1, 1} },
		"many 1, 2, 1; after 3; split or; join xor; when 5;": func(k *api.Task) {
			k.Guard, k.Join, k.Split, k.After, k.Many = num(5), api.One, api.Some, 3, [3]int{1, 2, 1}
		},
		"var a: n; var t: n; var c: n; var n: n; when a; in a(a); out b((c + n));": func(k *api.Task) {
			k.Vars = []api.Var{{Name: "a"}, {Name: "t"}, {Name: "c"}, {Name: "n"}}
			k.Guard, k.Ins = vari(0), []api.Arc{{Place: 0, Expr: vari(0)}}
			k.Outs = []api.Arc{{Place: 1, Expr: bin(api.Add, vari(2), vari(3))}}
		},
	} {
		want := plain()
		put(&want)
		if got := taskOf(t, s); !reflect.DeepEqual(got, want) {
			t.Errorf("%q: %+v, not %+v", s, got, want)
		}
	}
}

// P6.1: names of one kind do not matter to another, nor variables and clauses of one task to the next.
func TestNetNamesOfKinds(t *testing.T) {
	n := netOf(t, "colour a = enum a, b; colour b = enum a; place a: b; place b: a; task a { var a: a; when a; join or; split or; after 1; many 1, 1, 1; in a(a); } task b { var b: b; var a: b; when a; join or; split or; after 1; many 1, 1, 1; in b(a); } from b; to a;")
	if n.Places[0].Colour != 1 || n.Places[1].Colour != 0 || n.From != 1 || n.To != 0 || n.Tasks[0].Ins[0].Place != 0 || n.Tasks[1].Ins[0].Place != 1 {
		t.Errorf("%+v", n)
	}
	if !expr.Same(n.Tasks[0].Guard, vari(0)) || !expr.Same(n.Tasks[1].Guard, vari(1)) || !reflect.DeepEqual(n.Tasks[1].Vars, []api.Var{{Name: "b", Colour: 1}, {Name: "a", Colour: 1}}) {
		t.Errorf("%+v", n.Tasks)
	}
}

// P6.1: no limit of nets' parts holds here.
func TestNetOfMany(t *testing.T) {
	var b []string
	for i := range 2000 {
		s := strconv.Itoa(i)
		b = append(b, "colour", "c"+s, "=", "pair", "c"+strconv.Itoa(max(0, i-1)), ",", "c0", ";")
		if i == 0 {
			b = strings.Fields("colour c0 = enum a ;")
		}
		b = append(b, "place", "p"+s, ":", "c"+s, "=", s, ";", "task", "t"+s, "{", "var", "x", ":", "c"+s, ";", "in", "p"+s, "(", "x", ")", ";", "}")
	}
	b = append(b, "from", "p1999", ";", "to", "p7", ";")
	n, at, err := Net(tokens(b...), 5)
	if at != 5 || err != api.OK || len(n.Colours) != 2000 || len(n.Places) != 2000 || len(n.Tasks) != 2000 || n.From != 1999 || n.To != 7 {
		t.Fatalf("%d, %v", at, err)
	}
	for i := range 2000 {
		k := n.Tasks[i]
		if n.Colours[i].First != max(0, i-1) || n.Places[i].Colour != i || n.Places[i].First[0] != [2]int{i, 1} || k.Vars[0].Colour != i || k.Ins[0].Place != i {
			t.Fatalf("%d: %+v %+v %+v", i, n.Colours[i], n.Places[i], k)
		}
	}
}

// P6.1: the second answer is the end that was handed in, whatever it is.
func TestNetEnd(t *testing.T) {
	l := tokens(strings.Fields("colour n = enum k ; place a : n ; from a ; to a ;")...)
	for _, end := range []int{0, 1, -1, 5, 1000, api.MaxInt, api.MinInt} {
		if n, at, err := Net(l, end); at != end || err != api.OK || len(n.Places) != 1 {
			t.Errorf("%d: %d, %v, %+v", end, at, err, n)
		}
		if e, at, err := Expr(tokens("x"), end, []string{"x"}); at != end || err != api.OK || !expr.Same(e, vari(0)) {
			t.Errorf("%d: %d, %v, %+v", end, at, err, e)
		}
		refusedNet(t, l[:len(l)-1], end, end, api.ErrForm)
		refusedNet(t, nil, end, end, api.ErrForm)
		if e, at, err := Expr(tokens("x", "+"), end, []string{"x"}); at != end || err != api.ErrForm || !reflect.DeepEqual(e, api.Expr{}) {
			t.Errorf("%d: %d, %v, %+v", end, at, err, e)
		}
	}
}

// P6.2
func TestNetForm(t *testing.T) {
	refused(t, api.ErrForm,
		"@", " @", "# none\n@", "from@", "@;", "@to a; from a;", "@n", "@0", "@{", "from @;", "from @from;", "from @0;",
		"colour@", "colour @task = enum a;", "colour @0 = enum a;", "colour @= enum a;", "colour n @enum a;", "colour n @: enum a;", "colour n @== enum a;",
		"colour n = @a;", "colour n = @;", "colour n = @place;", "colour n = @0 .. 1;", "colour n = @= enum a;",
		"colour n = int @;", "colour n = int @a .. 1;", "colour n = int 0 @1;", "colour n = int 0 @, 1;", "colour n = int 0 .. @;", "colour n = int @+1 .. 2;", "colour n = int - @- 1 .. 2;", "colour n = int -@;", "colour n = int 0 .. 1@", "colour n = int 0 .. 1 @, 2;", "colour n = int 0 .. 1 @place", "colour n = int @.. 2;", "colour n = int - @a .. 2;", "colour n = int 0 .. @!1;",
		"colour n = enum @;", "colour n = enum @0;", "colour n = enum a @b;", "colour n = enum a, @;", "colour n = enum a, @, b;", "colour n = enum a, @if;", "colour n = enum @or;", "colour n = enum a@", "colour n = enum a,@",
		"colour n = enum a; colour p = pair @;", "colour n = enum a; colour p = pair n @;", "colour n = enum a; colour p = pair n, @;", "colour n = enum a; colour p = pair n @n;", "colour n = enum a; colour p = pair n, n @, n;", "colour n = enum a; colour p = pair @int, n;", "colour n = enum a; colour p = pair n, @0;",
		"colour n = enum a;@", "colour n = enum a;@;", "colour n = enum a; @n", "colour n = enum a; @}",
		"colour n = enum a; place @: n;", "colour n = enum a; place a @n;", "colour n = enum a; place a @= n;", "colour n = enum a; place a: @;", "colour n = enum a; place a: @0;", "colour n = enum a; place a: @int;", "colour n = enum a; place @to: n;",
		"colour n = enum a; place a: n = @;", "colour n = enum a; place a: n = @a;", "colour n = enum a; place a: n = @-1;", "colour n = enum a; place a: n = 0 @1;", "colour n = enum a; place a: n = 0, @;", "colour n = enum a; place a: n = 0*@;", "colour n = enum a; place a: n = 0*@a;", "colour n = enum a; place a: n = 0*1 @*2;", "colour n = enum a; place a: n = 0*@-1;", "colour n = enum a; place a: n = @*1;", "colour n = enum a; place a: n @0;", "colour n = enum a; place a: n @, 0;", "colour n = enum a; place a: n = 0@", "colour n = enum a; place a: n = 0,@", "colour n = enum a; place a: n = 0 @= 1;",
		ahead+"@", ahead+"from a@", ahead+"from a @to a;", ahead+"from a;@", ahead+"from a; @from a;", ahead+"from a; to @;", ahead+"from a; to @if;", ahead+"from a; to a@", ahead+"from a; to a @, b;", ahead+"from a; @place c: n; to a;", ahead+"from a; to a;@;", ahead+"from a; to a; @place c: n;", ahead+"from a; to a; @from a; to a;", ahead+"from a; to a; @x", ahead+"@to a;", ahead+"from a @, b;",
		ahead+"task@", ahead+"task @{ }", ahead+"task @in { }", ahead+"task t @}", ahead+"task t @;", ahead+"task t {@", ahead+"task t { @;", ahead+"task t { @a }", ahead+"task t { @from a; to a;", ahead+"task t { } @;", ahead+"task t { } @}", ahead+"task t { @task u { } }", ahead+"task t { @place c: n; }", ahead+"task t { @if (1, 2, 3); }", ahead+"task t { @xor; }", ahead+"task t { @{ } }", ahead+"task t { @0; }", ahead+"task t @( )")
	refusedTask(t, api.ErrForm,
		"var @;", "var @: n;", "var x @n;", "var x: @;", "var x: n @, y: n;", "var x: n @", "var @when: n;", "var x: @1;", "var @0: n;", "var x: n @= 0;",
		"when @;", "when 1 @", "when 1 @1;", "when 1 @, 1;", "when @= 1;", "when @}",
		"join @;", "join @all;", "join @And;", "join and @or;", "join and @", "join @1;", "join @if;", "join @&&;", "split @;", "split @in;", "split xor @, or;", "split or @", "split @||;",
		"in @;", "in a @;", "in @(1);", "in a(@);", "in a(1 @;", "in a @1;", "in a(1) @", "in a(1) @, b(1);", "in a(1 @, 2);", "in @in(1);", "in a @{1);", "in a(1)@);", "in a((1)@;", "in a @= 1;",
		"out @;", "out a @;", "out @(1);", "out a(@);", "out a(1 @;", "out a(1) @", "out @0(1);", "out a(1) @a(2);",
		"cancel @;", "cancel a @b;", "cancel a @, b;", "cancel @cancel;", "cancel a @", "cancel @0;", "cancel a @(1);",
		"after @;", "after @a;", "after @-1;", "after 1 @", "after 1 @1;", "after 1 @+ 1;", "after @(1);",
		"many @;", "many 1 @;", "many 1, @;", "many 1, 2 @;", "many 1, 2, @;", "many 1, 2, 3 @, 4;", "many 1 @2, 3;", "many 1, 2, 3 @", "many @, 2, 3;", "many @-1, 2, 3;", "many 1, @-2, 3;", "many 1, 2, @-3;", "many @a, 2, 3;", "many 1, 2, 3 @+ 1;", "many 1 @* 2, 3;")
}

// P6.2: names that are declared behind, or not at all, or as something else.
func TestNetNone(t *testing.T) {
	refused(t, api.ErrNone,
		"place a: @n;", "from @a; to a;", "place a: @n; colour n = enum a;", "place a: @a;", "place a: @int0 = 0;",
		"colour n = pair @n, n;", "colour n = enum a; colour p = pair n, @p;", "colour n = enum a; colour p = pair @p, n;", "colour n = enum a; colour p = pair @m, n; colour m = enum a;", "colour n = enum a; colour p = pair n, @a;", "colour n = enum a; colour p = pair @a, n;",
		"colour n = enum a; place b: @a;", "colour n = enum a; place b: @N;", "colour n = enum a; place b: n; place c: @b;", "colour n = enum a; place b: n; place c: @nn;",
		"colour n = enum a; from @n; to n;", "colour n = enum a; from @a; to a;", ahead+"from @t; to a;", ahead+"from a; to @c;", ahead+"from a; to @x;", ahead+"task t { } from @t; to a;", ahead+"task t { var x: n; } from @x; to a;", ahead+"from @A; to a;",
		ahead+"task t { var x: n; } task u { when @x; }", ahead+"task t { in @d(1); } place d: n;", ahead+"task t { var x: @p; } colour p = enum a;")
	refusedTask(t, api.ErrNone,
		"var x: @x;", "var x: @a;", "var x: @t;", "var x: n; var y: @x;", "var x: @red;", "when @x;", "when @x; var x: n;", "when @n;", "when @a;", "when @t;", "when @red;", "var x: n; when @X;", "var x: n; when @y;", "var x: n; when x + @y; var y: n;",
		"in @n(1);", "in @t(1);", "in @x(1);", "var x: n; in @x(1);", "in a(@x);", "in a(@a);", "in a(@x); var x: n;", "in @c(1);", "out @c(1);", "out a(@x);", "var x: n; out @x(x);", "out a(1 + @x);", "out a(if(1, 2, @q));",
		"cancel @n;", "cancel @t;", "cancel @x;", "var x: n; cancel @x;", "cancel a; cancel @c;")
}

// P6.2: names that are declared twice, clauses that stand twice.
func TestNetTwice(t *testing.T) {
	refused(t, api.ErrTwice,
		"colour n = enum a; colour @n = enum b;", "colour n = enum a; colour m = enum b; colour @n = pair n, m;", "colour n = enum a; place p: n; colour @n = int 0 .. 1;",
		"colour n = enum a; place a: n; place @a: n;", ahead+"place @b: n;", ahead+"task t { } place @a: n;",
		ahead+"task t { } task @t { }", ahead+"task t { } task u { } task @t {", ahead+"task t { var x: n; } place d: n; task @t")
	refusedTask(t, api.ErrTwice,
		"var x: n; var @x: n;", "var x: n; var @x: c;", "var x: n; var y: n; in a(x); var @x: n;",
		"when 1; @when 1;", "when 1; @when;", "when 1; var x: n; in a(x); @when x;", "when 0; @when 1;",
		"join and; @join and;", "join or; split or; @join xor;", "split and; @split and;", "split xor; join or; @split or;",
		"after 0; @after 0;", "after 1; cancel a; @after 2;", "many 0, 0, 0; @many 0, 0, 0;", "many 1, 2, 3; after 1; @many 1;",
		"when 1; join and; split or; after 1; many 1, 1, 1; @after", "when 1; join and; split or; after 1; many 1, 1, 1; @many", "when 1; join and; split or; after 1; many 1, 1, 1; @when", "when 1; join and; split or; after 1; many 1, 1, 1; @join", "when 1; join and; split or; after 1; many 1, 1, 1; @split")
}

// P6.2: of two faults the first one.
func TestNetFirstFault(t *testing.T) {
	refused(t, api.ErrNone, "place a: @n place", "place a: @n; colour n; colour n", "from @a; from b", ahead+"task t { in @d(x) when when }", ahead+"task t { when @x x }", ahead+"task t { when 1; cancel @d; when 2; }", "place p: @n; place p: n; 7", ahead+"from @x; to y; z")
	refused(t, api.ErrTwice, "colour n = enum a; colour @n = enum", "colour n = enum a; colour @n = pair m, k;", ahead+"place @a: x;", ahead+"task t { when 1; @when x; }", ahead+"task t { when 1; @when }", ahead+"task t { } task @t }", ahead+"task t { var x: n; var @x: q; }")
	refused(t, api.ErrForm, "colour n @enum a; place a: m;", "place a @; place a: n;", ahead+"task t { when 1 @when 2; }", ahead+"task t { when 1; join @1; when 2; }", ahead+"place a2 @a: n;", ahead+"task t { in @1(x); }", "@; place a: n;", ahead+"task t { when (1 @; } task t { }")
	deep := strings.Repeat("(", api.MaxDeep)
	refused(t, api.ErrFull, ahead+"task t { when "+deep+"@(1; when x; }", ahead+"task t { when "+deep+"@1 ) when }")
	refused(t, api.ErrForm, ahead+"task t { when @) "+deep+"(1; }", ahead+"task t { join @"+deep+"(; }")
	refused(t, api.ErrNone, ahead+"task t { when @x "+deep+"(1; }", ahead+"task t { in @x("+deep+"(1; }")
	refused(t, api.ErrTwice, ahead+"task t { when 1; @when "+deep+"(1; }")
}

// P6.2: tokens whose kinds, texts and places are anything.
func TestNetOddTokens(t *testing.T) {
	const whole = "colour n = int - 1 .. 3 ; colour c = enum red , blue ; colour p = pair n , c ; place a : n = 0 * 2 , 1 ; task t { var x : n ; when if ( x < 3 , ! 1 , - x ) ; join and ; split or ; in a ( x ) ; out a ( 1 ) ; cancel a ; after 5 ; many 1 , 2 , 1 ; } from a ; to a ;"
	good := tokens(strings.Fields(whole)...)
	rule := readGrammar()
	net, _, err := Net(good, 0)
	if err != api.OK {
		t.Fatal(err)
	}
	for i := range good {
		for _, kind := range []int{0, -1, 4, 5, api.TokName, api.TokNumber, api.TokSign, api.MinInt, api.MaxInt} {
			if kind == good[i].Kind {
				continue
			}
			l := slices.Clone(good)
			l[i].Kind = kind
			if kind == api.TokSign && token.Word(l[i].Text) {
				// What stands in quotes may be of TokSign, also where it is a Word.
				if n, at, err := Net(l, 7); at != 7 || err != api.OK || !reflect.DeepEqual(n, net) {
					t.Errorf("%v: %d, %v, %+v", l[i], at, err, n)
				}
				continue
			}
			// Where a part of an expression may be, what is called a name now is one, but not a variable's.
			_, want := judgeOfNet(rule).tells(l, 7)
			if want != api.ErrForm && (want != api.ErrNone || kind != api.TokName) {
				t.Fatalf("%v: %v", l[i], want)
			}
			refusedNet(t, l, 7, l[i].At, want)
		}
		if good[i].Kind != api.TokNumber {
			continue
		}
		for _, s := range []string{"", "a", "00", "01", "-1", "+1", " 1", "1 ", "1.0", "9223372036854775808", "99999999999999999999", "0x1", "x", ";"} {
			l := slices.Clone(good)
			l[i].Text = s
			refusedNet(t, l, 7, l[i].At, api.ErrForm)
		}
	}
	l := slices.Clone(good)
	for i := range l {
		l[i].At = -5 * i
	}
	refusedNet(t, l[:9], 3, 3, api.ErrForm)
	l[9].Kind = 9
	refusedNet(t, l, 3, -45, api.ErrForm)
}

// P6.2, P6.3: a Word of TokSign is what stands in quotes, so what is wrong stands behind it; it is no NAME, and a sign of TokName is no sign.
func TestWordsOfSigns(t *testing.T) {
	sign := func(s string) api.Token { return api.Token{Kind: api.TokSign, Text: s} }
	for _, s := range strings.Fields("colour place task from") {
		refusedNet(t, []api.Token{sign(s)}, 1, 1, api.ErrForm)
	}
	for _, s := range strings.Fields("to var int and if ; x") {
		refusedNet(t, []api.Token{sign(s)}, 1, 0, api.ErrForm)
	}
	for _, s := range strings.Fields("var when join split in out cancel after many") {
		l := tokens("task", "t", "{", s)
		l[3].Kind = api.TokSign
		refusedNet(t, l, 1, 1, api.ErrForm)
	}
	for _, s := range strings.Fields("int enum pair") {
		l := tokens("colour", "c", "=", s)
		l[3].Kind = api.TokSign
		refusedNet(t, l, 1, 1, api.ErrForm)
	}
	for _, c := range []struct {
		t  api.Token
		at int
	}{{sign("if"), 1}, {sign("from"), 0}, {sign("or"), 0}, {sign("x"), 0}, {api.Token{Kind: api.TokNumber, Text: "if"}, 0}, {api.Token{Text: "if"}, 0}} {
		if e, at, err := Expr([]api.Token{c.t}, 1, []string{"x", "if"}); at != c.at || err != api.ErrForm || !reflect.DeepEqual(e, api.Expr{}) {
			t.Errorf("%v: %+v, %d, %v", c.t, e, at, err)
		}
	}
	l := tokens("x", "+", "x")
	l[1].Kind = api.TokName
	if _, at, err := Expr(l, 1, []string{"x", "+"}); at != 10 || err != api.ErrForm {
		t.Errorf("%d, %v", at, err)
	}
	again := tokens("task", "t", "{", "after", "1", ";", "after")
	again[3].Kind = api.TokSign
	refusedNet(t, again, 1, 60, api.ErrTwice)
	again[3].Kind, again[6].Kind = api.TokName, api.TokSign
	refusedNet(t, again, 1, 60, api.ErrTwice)
}

// P6.1, P6.2: a name is any text that is no Word.
func TestNetOddNames(t *testing.T) {
	for _, s := range []string{"", ";", "0", "1a", "é", "\x00\xff", " ", "Colour", "int ", "==", "(", "-", strings.Repeat("n", 3*api.MaxName)} {
		l := tokens("colour", "X", "=", "enum", "X", ",", "X", ";", "place", "X", ":", "X", ";", "task", "X", "{", "var", "X", ":", "X", ";", "in", "X", "(", "X", ")", ";", "}", "from", "X", ";", "to", "X", ";")
		for i := range l {
			if l[i].Text == "X" {
				l[i].Text = s
			}
		}
		n, at, err := Net(l, 9)
		want := api.Net{
			Colours: []api.Colour{{Name: s, Kind: api.CEnum, Names: []string{s, s}}},
			Places:  []api.Place{{Name: s}},
			Tasks:   []api.Task{{Name: s, Vars: []api.Var{{Name: s}}, Guard: num(1), Join: api.All, Split: api.All, Ins: []api.Arc{{Expr: vari(0)}}}},
		}
		if at != 9 || err != api.OK || !reflect.DeepEqual(n, want) {
			t.Errorf("%q: %d, %v, %+v", s, at, err, n)
		}
	}
	for _, s := range strings.Fields("colour place task var when join split in out cancel after many from to int enum pair and xor or if") {
		refusedNet(t, tokens("colour", s, "=", "enum", "a", ";"), 0, 10, api.ErrForm)
		refusedNet(t, tokens("colour", "c", "=", "enum", "a", ",", s, ";"), 0, 60, api.ErrForm)
		if e, at, err := Expr(tokens("1", "+", s), 5, []string{s}); err == api.OK || at != 20 && s != "if" || s == "if" && at != 5 || err != api.ErrForm || !reflect.DeepEqual(e, api.Expr{}) {
			t.Errorf("%q: %d, %v, %+v", s, at, err, e)
		}
	}
}

// P6.3
func TestText(t *testing.T) {
	for s, want := range map[string]api.Errno{"colour $": api.ErrForm, "from a; 01": api.ErrForm, "from a; 9223372036854775808": api.ErrOver, "x " + strings.Repeat("n", api.MaxName+1): api.ErrFull, "; 1a": api.ErrForm, strings.Repeat(" ", api.MaxText+1): api.ErrFull, strings.Repeat(";", api.MaxText+1): api.ErrFull} {
		_, at, err := token.Lex(s)
		n, where, e := Text(s)
		if err != want || e != want || where != at || !reflect.DeepEqual(n, api.Net{}) {
			t.Errorf("Text(%.40q): %d, %v, %+v", s, where, e, n)
		}
	}
	pad := strings.Repeat(" ", api.MaxText)
	refused(t, api.ErrForm, pad+"@", pad[1:]+"@;", pad[4:]+"from@")
	s := "colour n = int 0 .. 3; place a: n = 0*2; from a; to a;"
	s += pad[:api.MaxText-len(s)]
	if n := netOf(t, s); len(n.Colours) != 1 || len(n.Places) != 1 || len(n.Tasks) != 0 {
		t.Errorf("%+v", n)
	}
}

// P6.3
func TestExpr(t *testing.T) {
	x, y, z := vari(0), vari(1), vari(2)
	for s, want := range map[string]api.Expr{
		"0": num(0), "7": num(7), "9223372036854775807": num(api.MaxInt), "x": x, "z": z, "(y)": y, "((1))": num(1),
		"-1": neg(num(1)), "--x": neg(neg(x)), "!x": not(x), "!!x": not(not(x)), "-!-x": neg(not(neg(x))), "-(x)": neg(x), "!(x + y)": not(bin(api.Add, x, y)),
		"-x + y": bin(api.Add, neg(x), y), "x + -y": bin(api.Add, x, neg(y)), "-x * !y": bin(api.Mul, neg(x), not(y)), "x - -1": bin(api.Sub, x, neg(num(1))), "!x == y": bin(api.Eq, not(x), y), "-(x + y) * z": bin(api.Mul, neg(bin(api.Add, x, y)), z),
		"if(x, y, z)": iff(x, y, z), "if(1, 2, 3) + if(x, y, z)": bin(api.Add, iff(num(1), num(2), num(3)), iff(x, y, z)), "if(if(x, y, z), x + 1, -if(1, 2, 3))": iff(iff(x, y, z), bin(api.Add, x, num(1)), neg(iff(num(1), num(2), num(3)))), "!if(x, y, z) && x": bin(api.And, not(iff(x, y, z)), x), "if((x), (y), ((z)))": iff(x, y, z),
		"x - y - z": bin(api.Sub, bin(api.Sub, x, y), z), "x - (y - z)": bin(api.Sub, x, bin(api.Sub, y, z)), "x + y - z + 1": bin(api.Add, bin(api.Sub, bin(api.Add, x, y), z), num(1)), "x / y * z % 2": bin(api.Rem, bin(api.Mul, bin(api.Div, x, y), z), num(2)),
		"x + y * z": bin(api.Add, x, bin(api.Mul, y, z)), "x * y + z": bin(api.Add, bin(api.Mul, x, y), z), "(x + y) * z": bin(api.Mul, bin(api.Add, x, y), z), "x * (y + z)": bin(api.Mul, x, bin(api.Add, y, z)),
		"x < y < z": bin(api.Lt, bin(api.Lt, x, y), z), "x == y != z": bin(api.Ne, bin(api.Eq, x, y), z), "x <= y == z": bin(api.Eq, bin(api.Le, x, y), z),
		"x || y && z": bin(api.Or, x, bin(api.And, y, z)),
		"x && y || z": bin(api.Or, bin(api.And, x, y), z),
		"x || y || z": bin(api.Or, bin(api.Or, x, y), z),
		"x && y == z": bin(api.And, x, bin(api.Eq, y, z)),
		"x == y && z": bin(api.And, bin(api.Eq, x, y), z),
		"1 || 2 && 3 < 4 + 5 * 6 - 7 == 8 && 9 || 10": bin(api.Or, bin(api.Or, num(1), bin(api.And, bin(api.And, num(2), bin(api.Eq, bin(api.Lt, num(3), bin(api.Sub, bin(api.Add, num(4), bin(api.Mul, num(5), num(6))), num(7))), num(8))), num(9))), num(10)),
		"1 * 2 + 3 < 4 && 5 || 6 && 7 < 8 + 9 * 10":   bin(api.Or, bin(api.And, bin(api.Lt, bin(api.Add, bin(api.Mul, num(1), num(2)), num(3)), num(4)), num(5)), bin(api.And, num(6), bin(api.Lt, num(7), bin(api.Add, num(8), bin(api.Mul, num(9), num(10)))))),
	} {
		if e, at, err := exprOf(s); err != api.OK || at != len(s) || !reflect.DeepEqual(e, want) {
			t.Errorf("%q: %s, %d, %v", s, expr.Text(e, []string{"x", "y", "z"}), at, err)
		}
		if k := taskOf(t, "var x: n; var y: n; var z: n; when "+s+"; in a("+s+"); out b("+s+");"); !reflect.DeepEqual(k.Guard, want) || !reflect.DeepEqual(k.Ins[0].Expr, want) || !reflect.DeepEqual(k.Outs[0].Expr, want) {
			t.Errorf("%q: %+v", s, k)
		}
	}
}

// P6.1: of all pairs of operations the stronger one first, of alike ones the first.
func TestExprPairs(t *testing.T) {
	for a := api.Add; a <= api.Or; a++ {
		for b := api.Add; b <= api.Or; b++ {
			want := bin(b, bin(a, vari(0), vari(1)), vari(2))
			if calc.Strength(b) > calc.Strength(a) {
				want = bin(a, vari(0), bin(b, vari(1), vari(2)))
			}
			s := "x" + calc.Sign(a) + "y" + calc.Sign(b) + "z"
			if e, _, err := exprOf(s); err != api.OK || !reflect.DeepEqual(e, want) {
				t.Errorf("%q: %+v, %v", s, e, err)
			}
		}
	}
}

// P6.3: what is written of an expression, with the brackets that it needs or with more, is that expression.
func TestExprOfTrees(t *testing.T) {
	m := &maker{Rand: rand.New(rand.NewSource(63))}
	names := []string{"x", "y", "z"}
	for range 20000 {
		e := m.tree(1+m.Intn(7), 3)
		l := signed(m.Rand, tokens(m.written(e, names, pick(m.Rand, 0, 0, 3, 20))...), pick(m.Rand, 0, 5, 10))
		if got, at, err := Expr(l, -1, names); err != api.OK || at != -1 || !reflect.DeepEqual(got, e) {
			t.Fatalf("%q: %q, %d, %v", token.Join(l), expr.Text(got, names), at, err)
		}
		l, end, _ := token.Lex(expr.Text(e, names))
		if got, _, err := Expr(l, end, names); err != api.OK || !reflect.DeepEqual(got, e) {
			t.Fatalf("%q: %q, %v", token.Join(l), expr.Text(got, names), err)
		}
	}
}

// P6.3: names that are none, alike, empty or Words.
func TestExprNames(t *testing.T) {
	name := func(s string) []api.Token { return []api.Token{{Kind: api.TokName, Text: s, At: 3}} }
	for _, c := range []struct {
		s     string
		names []string
		want  int
		err   api.Errno
	}{
		{"x", nil, 0, api.ErrNone},
		{"x", []string{""}, 0, api.ErrNone},
		{"x", []string{"y", "X", "xx", "x "}, 0, api.ErrNone},
		{"x", []string{"y", "x"}, 1, api.OK},
		{"x", []string{"y", "x", "x", "y"}, 1, api.OK},
		{"y", []string{"y", "x", "x", "y"}, 0, api.OK},
		{"x", []string{"x", "x"}, 0, api.OK},
		{"", []string{"x", "", ""}, 1, api.OK},
		{"", []string{"x"}, 0, api.ErrNone},
		{"", nil, 0, api.ErrNone},
		{"+", []string{"+"}, 0, api.OK},
		{"7", []string{"6", "7"}, 1, api.OK},
		{"if", []string{"if"}, 0, api.ErrForm},
		{"to", []string{"to"}, 0, api.ErrForm},
	} {
		e, at, err := Expr(name(c.s), 9, c.names)
		wantAt, want := 9, vari(c.want)
		if c.err == api.ErrNone || c.s == "to" {
			wantAt = 3
		}
		if c.err != api.OK {
			want = api.Expr{}
		}
		if at != wantAt || err != c.err || !reflect.DeepEqual(e, want) {
			t.Errorf("%q of %q: %+v, %d, %v", c.s, c.names, e, at, err)
		}
	}
	many := make([]string, 1000)
	for i := range many {
		many[i] = "v" + strconv.Itoa(i)
	}
	if e, _, err := Expr(name("v999"), 9, many); err != api.OK || !expr.Same(e, vari(999)) {
		t.Errorf("%+v, %v", e, err)
	}
}

// P6.2, P6.3
func TestExprForm(t *testing.T) {
	refusedExpr(t, api.ErrForm,
		"@", "x @x", "x @1", "1 @x", "1 @1", "x + @", "x + @+ y", "x @! y", "x @!", "@+ x", "@* x", "@)", "(@)", "(x@", "(x @x)", "x@)", "(x)@)", "-@", "!@", "- @* x", "(x + @)", "x @, y", "@, x", "x @;", "@;", "x @= y", "x == @= y", "@= x", "x @.. y", "x @(y)", "1 @(y)", "x @if(1, 2, 3)", "x @{ y",
		"if@", "if @x", "if (@", "if (@)", "if (x@)", "if (x, @)", "if (x, y@)", "if (x, y, @)", "if (x, y, z@", "if (x, y, z@, x)", "if (@, y, z)", "if (x, @, z)", "if (x @y, z)", "if (x, y @z)", "if (x, y, z) @x", "if @- (x, y, z)", "if (x, y, z)@)", "x < @to", "x && @and", "@or", "x @or y", "x @and y", "-if@", "x < @<= y")
	refusedExpr(t, api.ErrNone, "@a", "x + @a", "-@a", "(@a", "if(x, @a, )", "@a b", "x + y * @w +", "@X", "@xx", "if(1, 2, @a")
}

// P6.2: each way that goes deeper, as deep as may be, and one deeper.
func TestDeep(t *testing.T) {
	for _, way := range []struct {
		ahead, behind string
		by            int
	}{
		{"-", "", 1}, {"!", "", 1}, {"(", ")", 1}, {"if(", ", 1, 1)", 1}, {"if(1, ", ", 1)", 1}, {"if(1, 1, ", ")", 1},
		{"1 + (", ")", 2}, {"1 * (", ")", 2}, {"1 || (", ")", 2}, {"(1 + 1) - (", ")", 2}, {"1 + 1 + 1 - (", ") + 1", 2}, {"1 * 1 == (", ") + 1", 2},
		{"-(", ")", 2}, {"!-", "", 2}, {"-if(1, 1, ", ") + 1", 2}, {"(", ") + 1", 1}, {"if(1, 2, (", "))", 2}, {"(", ") * 1 + 1 < 1 && 1 || 1", 1},
		{"x || y && z == 1 + 2 * (", ")", 6}, {"x < 1 * (", ")", 3},
	} {
		times := (api.MaxDeep - 1) / way.by
		rest := api.MaxDeep - 1 - times*way.by
		text := func(more int) string {
			return strings.Repeat(way.ahead, times) + strings.Repeat("-", rest+more) + "@7" + strings.Repeat(way.behind, times)
		}
		s, _ := marked(text(0))
		if e, at, err := exprOf(s); err != api.OK || at != len(s) || !strings.Contains(expr.Text(e, []string{"x", "y", "z"}), "7") {
			t.Errorf("%q: %d, %v", s, at, err)
		}
		refusedExpr(t, api.ErrFull, text(1))
	}
}

// P6.2: what is behind a sign is deeper than what is ahead of it, but not deeper than behind a like one.
func TestDeepSigns(t *testing.T) {
	for deep := 1; deep <= api.MaxDeep; deep++ {
		open, shut := strings.Repeat("(", deep-1), strings.Repeat(")", deep-1)
		for s, by := range map[string]int{
			"x": 0, "x + @y": 1, "x + @y + z": 1, "x - @y - y - y - y - z": 1, "x * @y + z": 1, "x || y && @z": 2, "x + y * @z * z": 2, "x + y * @z + x * y": 2,
			"x || y && z < x + y * @z": 5, "x || y && z < x + y * @z || x": 5, "x + -@y": 2, "x * -!@y": 3, "if(@x, y, z)": 1, "if(x, y + @z, z)": 2, "x + if(@x, y, z)": 2, "x + y * if(@x, y, z)": 3, "(x) + (@y)": 2, "x + y * (@x)": 3,
		} {
			if by == 0 {
				s += "@"
			}
			text, _ := marked(open + s + shut)
			if deep+by > api.MaxDeep+1 {
				continue
			}
			if deep+by == api.MaxDeep+1 {
				refusedExpr(t, api.ErrFull, open+s+shut)
			} else if _, at, err := exprOf(text); at != len(text) || err != api.OK {
				t.Errorf("%q: %d, %v", text, at, err)
			}
		}
	}
	long := "x" + strings.Repeat(" + x", 4000)
	if e, _, err := exprOf(long); err != api.OK || expr.Size(e) != 8001 || expr.Depth(e) != 4001 {
		t.Errorf("%v", err)
	}
	long = strings.Repeat("(", api.MaxDeep-2) + "x" + strings.Repeat(" + x * 1", 1500) + strings.Repeat(")", api.MaxDeep-2)
	refusedExpr(t, api.ErrFull, strings.Replace(long, "1", "@1", 1))
	long = strings.Repeat("(", api.MaxDeep-3) + "x" + strings.Repeat(" + x * 1", 1500) + strings.Repeat(")", api.MaxDeep-3)
	if _, at, err := exprOf(long); err != api.OK || at != len(long) {
		t.Errorf("%d, %v", at, err)
	}
}

// P6.2: a part that is too deep is refused where it would have to begin, whatever is there.
func TestDeepPlace(t *testing.T) {
	for _, way := range []string{"(", "-", "!", "if("} {
		most := strings.Repeat(way, api.MaxDeep)
		refusedExpr(t, api.ErrFull, most+"@", most+"@)", most+"  @1", most+"@unknown", most+"@;", most+" @", most+"@"+way)
		refusedExpr(t, api.ErrForm, most[len(way):]+"@", most[len(way):]+"@)", most[len(way):]+" @;")
		refusedExpr(t, api.ErrNone, most[len(way):]+"@unknown")
	}
	refusedExpr(t, api.ErrFull, strings.Repeat("(", api.MaxDeep-1)+"1 + @", strings.Repeat("(", api.MaxDeep-1)+"1 + @)")
	refusedTask(t, api.ErrFull, "when "+strings.Repeat("(", api.MaxDeep)+"@1", "in a("+strings.Repeat("(", api.MaxDeep)+"@1", "out a("+strings.Repeat("-", api.MaxDeep)+"@1);")
	for _, clause := range []string{"when X;", "in a(X);", "out b(X);"} {
		taskOf(t, strings.Replace(clause, "X", strings.Repeat("(", api.MaxDeep-1)+"1"+strings.Repeat(")", api.MaxDeep-1), 1))
	}
}

// P6.1: nets of all kinds, as they were written.
func TestMadeNets(t *testing.T) {
	r := rand.New(rand.NewSource(64))
	for range 2000 {
		want, l := madeNet(r)
		n, at, err := Net(tokens(l...), 77)
		if at != 77 || err != api.OK || !reflect.DeepEqual(n, want) {
			t.Fatalf("%q: %d, %v\n%+v\nnot\n%+v", l, at, err, n, want)
		}
		if n, at, err := Net(signed(r, tokens(l...), 1+r.Intn(10)), 77); at != 77 || err != api.OK || !reflect.DeepEqual(n, want) {
			t.Fatalf("%q with Words of TokSign: %d, %v\n%+v\nnot\n%+v", l, at, err, n, want)
		}
		s, _ := spaced(r, l)
		if n, at, err := Text(s); len(s) <= api.MaxText && (at != len(s) || err != api.OK || !reflect.DeepEqual(n, want)) {
			t.Fatalf("%q: %d, %v\n%+v\nnot\n%+v", s, at, err, n, want)
		}
	}
}

// P6.2, P6.5: what is told of spoiled nets is what the grammar, the names and the depths ask for.
func TestSpoiledNets(t *testing.T) {
	r := rand.New(rand.NewSource(65))
	rule := readGrammar()
	told := map[api.Errno]int{}
	for range 8000 {
		_, pieces := madeNet(r)
		l := signed(r, spoiled(r, tokens(pieces...)), pick(r, 0, 1, 5, 10))
		end := pick(r, 10*len(l), 5, -3)
		wantAt, want := judgeOfNet(rule).tells(l, end)
		n, at, err := Net(l, end)
		if at != wantAt || err != want || (err == api.OK) != (len(n.Places) > 0) {
			t.Fatalf("%q, %d: %d, %v, not %d, %v", token.Join(l), end, at, err, wantAt, want)
		}
		told[err]++
	}
	for _, err := range []api.Errno{api.OK, api.ErrForm, api.ErrNone, api.ErrTwice} {
		if told[err] < 100 {
			t.Errorf("%v was told %d times only", err, told[err])
		}
	}
}

// P6.2, P6.3, P6.5: the same of rows of tokens that are an expression now and then, many of them deep.
func TestMixedExprs(t *testing.T) {
	r := rand.New(rand.NewSource(66))
	rule := readGrammar()
	names := []string{"x", "y"}
	told := map[api.Errno]int{}
	for range 20000 {
		l := signed(r, mixedExpr(r), pick(r, 0, 5, 10))
		end := pick(r, 10*len(l), 5)
		wantAt, want := judgeOfExpr(rule, names).tells(l, end)
		e, at, err := Expr(l, end, names)
		if at != wantAt || err != want || (err == api.OK) != (e.Kind != 0) {
			t.Fatalf("%q: %d, %v, not %d, %v", token.Join(l), at, err, wantAt, want)
		}
		told[err]++
	}
	for _, err := range []api.Errno{api.OK, api.ErrForm, api.ErrNone, api.ErrFull} {
		if told[err] < 100 {
			t.Errorf("%v was told %d times only", err, told[err])
		}
	}
}

// mixedExpr is tokens most of which stand where an expression may have them.
func mixedExpr(r *rand.Rand) []api.Token {
	signs := strings.Fields("+ - * / % == != < <= && ||")
	deep := pick(r, 0, 0, 2, 10, 40, 100)
	var l []string
	var open []string // what must come behind
	for n := 0; n < 200; n++ {
		for n < deep && r.Intn(10) > 0 || r.Intn(6) == 0 {
			switch r.Intn(8) {
			case 0, 1, 2:
				l = append(l, pick(r, "-", "!"))
			case 3, 4:
				l, open = append(l, "("), append(open, ")")
			case 5:
				l, open = append(l, "if", "("), append(open, ")", ",", ",")
			default:
				l = append(l, pick(r, "x", "y", "1"), pick(r, signs...))
			}
			n++
		}
		l = append(l, pick(r, "x", "y", "0", "7"))
		for len(open) > 0 && open[len(open)-1] == ")" && r.Intn(3) > 0 {
			l, open = append(l, ")"), open[:len(open)-1]
		}
		switch {
		case len(open) > 0 && open[len(open)-1] == "," && r.Intn(2) > 0:
			l, open = append(l, ","), open[:len(open)-1]
		case len(open) > 0 || r.Intn(3) == 0:
			l = append(l, pick(r, signs...))
		default:
			n = 200
		}
	}
	if r.Intn(3) == 0 {
		i := r.Intn(len(l))
		l[i] = pick(r, "x", "z", "1", "-", "!", "(", ")", ",", "if", "*", ";", "from", "==")
	}
	if r.Intn(10) == 0 {
		l = l[:r.Intn(len(l))]
	}
	return tokens(l...)
}

// strings of an answer, and of what was handed in, may not share their bytes.
func shares(a, b string) bool {
	if a == "" || b == "" {
		return false
	}
	x, y := uintptr(unsafe.Pointer(unsafe.StringData(a))), uintptr(unsafe.Pointer(unsafe.StringData(b)))
	return x < y+uintptr(len(b)) && y < x+uintptr(len(a))
}

// labels is all names in a net.
func labels(n api.Net) []string {
	var l []string
	for _, c := range n.Colours {
		l = append(append(l, c.Name), c.Names...)
	}
	for _, p := range n.Places {
		l = append(l, p.Name)
	}
	for _, k := range n.Tasks {
		l = append(l, k.Name)
		for _, v := range k.Vars {
			l = append(l, v.Name)
		}
	}
	return l
}

// spans is the memory that the lists in v have, spare room too.
func spans(v reflect.Value, l [][2]uintptr) [][2]uintptr {
	switch v.Kind() {
	case reflect.Slice:
		if size := uintptr(v.Cap()) * v.Type().Elem().Size(); size > 0 {
			l = append(l, [2]uintptr{v.Pointer(), v.Pointer() + size})
		}
		for i := range v.Len() {
			l = spans(v.Index(i), l)
		}
	case reflect.Struct:
		for i := range v.NumField() {
			l = spans(v.Field(i), l)
		}
	}
	return l
}

// apart tells whether no two of these overlap.
func apart(l [][2]uintptr) bool {
	slices.SortFunc(l, func(a, b [2]uintptr) int { return int(a[0]) - int(b[0]) })
	for i := 1; i < len(l); i++ {
		if l[i][0] < l[i-1][1] {
			return false
		}
	}
	return true
}

// P6.4
func TestNewMemory(t *testing.T) {
	r := rand.New(rand.NewSource(67))
	for range 300 {
		want, pieces := madeNet(r)
		l := tokens(pieces...)
		for i := range l {
			l[i].Text = strings.Clone(l[i].Text)
		}
		l = append(l, api.Token{Text: "spare"})
		kept := slices.Clone(l)
		n, _, err := Net(l[:len(l)-1], 9)
		if err != api.OK || !slices.Equal(l, kept) {
			t.Fatalf("%v: %v, not %v", err, l, kept)
		}
		for _, s := range labels(n) {
			if slices.ContainsFunc(l, func(t api.Token) bool { return shares(s, t.Text) }) {
				t.Fatalf("%q is the token's", s)
			}
		}
		if !apart(spans(reflect.ValueOf(l), spans(reflect.ValueOf(n), nil))) {
			t.Fatalf("%q: shared", pieces)
		}
		clear(l)
		if again, _, err := Net(kept[:len(kept)-1], 9); err != api.OK || !reflect.DeepEqual(n, want) || !reflect.DeepEqual(again, want) || !apart(spans(reflect.ValueOf(n), spans(reflect.ValueOf(again), nil))) {
			t.Fatalf("%q: kept", pieces)
		}
	}
	text := strings.Clone(ahead + "task t { var x: n; in a(x); }" + tail)
	for _, s := range labels(netOf(t, text)) {
		if shares(s, text) {
			t.Errorf("%q is the text's", s)
		}
	}
}

// P6.4
func TestExprNewMemory(t *testing.T) {
	m := &maker{Rand: rand.New(rand.NewSource(68))}
	for range 300 {
		names := []string{"x", "y", "z", "spare"}
		e := m.tree(6, 3)
		l := append(tokens(m.written(e, names, 10)...), api.Token{Text: "spare"})
		kept := slices.Clone(l)
		got, _, err := Expr(l[:len(l)-1], 9, names[:3])
		if err != api.OK || !slices.Equal(l, kept) || !slices.Equal(names, []string{"x", "y", "z", "spare"}) {
			t.Fatalf("%v: %v", err, l)
		}
		clear(l)
		clear(names)
		if !reflect.DeepEqual(got, e) || !apart(spans(reflect.ValueOf(got), nil)) {
			t.Fatalf("%+v, not %+v", got, e)
		}
	}
}

// P6.5: places of tokens may be any numbers; what is told of a fault is one of them, or the end.
func TestPlaces(t *testing.T) {
	r := rand.New(rand.NewSource(69))
	for range 4000 {
		_, pieces := madeNet(r)
		l := spoiled(r, tokens(pieces...))
		_, at, err := Net(l, 3)
		which := len(l)
		if err != api.OK && at != 3 {
			which = at / 10
		}
		moved := slices.Clone(l)
		for i := range moved {
			moved[i].At = r.Int() - r.Int()
		}
		end := r.Int()
		want := end
		if which < len(l) {
			want = moved[which].At
		}
		if _, at, e := Net(moved, end); at != want || e != err {
			t.Fatalf("%q: %d, %v, not %d, %v", token.Join(l), at, e, want, err)
		}
	}
}

// P6.6
func TestBlanks(t *testing.T) {
	r := rand.New(rand.NewSource(70))
	for range 2000 {
		_, pieces := madeNet(r)
		pieces = slices.DeleteFunc(pieces, func(string) bool { return r.Intn(300) == 0 })
		a, placesOfA := spaced(r, pieces)
		b, placesOfB := spaced(r, pieces)
		if len(a) > api.MaxText || len(b) > api.MaxText {
			continue
		}
		n, at, err := Text(a)
		m, where, e := Text(b)
		i, j := slices.Index(append(placesOfA, len(a)), at), slices.Index(append(placesOfB, len(b)), where)
		if err != e || i != j || i < 0 || !reflect.DeepEqual(n, m) {
			t.Fatalf("%q: %d, %v\n%q: %d, %v", a, at, err, b, where, e)
		}
	}
}

// W1: any tokens, and any names.
func TestAnyTokens(t *testing.T) {
	r := rand.New(rand.NewSource(71))
	rule := readGrammar()
	for range 30000 {
		l := make([]api.Token, r.Intn(6))
		for i := range l {
			l[i] = api.Token{Kind: pick(r, 1, 2, 3, 1, 2, 3, 0, -7, 4), Text: pick(r, strings.Split("colour|place|task|from|to|if|-|(|)|!|;|=|:|+|*|int|enum|x|1|01||\xff|..|,", "|")...), At: r.Int() - r.Int()}
		}
		end := r.Int() - r.Int()
		wantAt, want := judgeOfNet(rule).tells(l, end)
		if _, at, err := Net(l, end); at != wantAt || err != want {
			t.Fatalf("%v, %d: %d, %v", l, end, at, err)
		}
		wantAt, want = judgeOfExpr(rule, []string{"x", "", "x"}).tells(l, end)
		if _, at, err := Expr(l, end, []string{"x", "", "x"}); at != wantAt || err != want {
			t.Fatalf("%v, %d: %d, %v", l, end, at, err)
		}
	}
}
