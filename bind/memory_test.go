package bind

import (
	"fmt"
	"math/rand"
	"reflect"
	"runtime"
	"slices"
	"strings"
	"testing"

	"baldric/api"
)

// visit goes through all lists, texts and numbers in v, and in their spare room.
func visit(v reflect.Value, see func(reflect.Value)) {
	see(v)
	switch v.Kind() {
	case reflect.Pointer:
		visit(v.Elem(), see)
	case reflect.Struct:
		for i := range v.NumField() {
			visit(v.Field(i), see)
		}
	case reflect.Array:
		for i := range v.Len() {
			visit(v.Index(i), see)
		}
	case reflect.Slice:
		l := v.Slice(0, v.Cap())
		for i := range l.Len() {
			visit(l.Index(i), see)
		}
	}
}

// roomy gives each list behind a pointer spare room, in which there are rows.
func roomy(at any) {
	var lists []reflect.Value
	visit(reflect.ValueOf(at), func(v reflect.Value) {
		if v.Kind() == reflect.Slice {
			lists = append(lists, v)
		}
	})
	// The deep ones first, since the others hold them.
	for _, v := range slices.Backward(lists) {
		l := reflect.MakeSlice(v.Type(), v.Len()+2, v.Len()+2)
		reflect.Copy(l, v)
		for i := range 2 {
			visit(l.Index(v.Len()+i), func(part reflect.Value) {
				if part.Kind() == reflect.Int {
					part.SetInt(1)
				}
			})
		}
		v.Set(l.Slice(0, v.Len()))
	}
}

// room is all that is in what the pointers lead to, and in its spare room.
func room(at ...any) string {
	var s strings.Builder
	for _, p := range at {
		visit(reflect.ValueOf(p), func(v reflect.Value) {
			switch v.Kind() {
			case reflect.Slice:
				fmt.Fprint(&s, v.Len(), " of ", v.Cap(), ";")
			case reflect.Int, reflect.String:
				fmt.Fprint(&s, v, ";")
			}
		})
	}
	return s.String()
}

// span is where memory begins and ends, spare room too.
type span struct {
	what       string
	begin, end uintptr
}

// spans is the memory of all lists and texts that the pointers lead to.
func spans(at ...any) []span {
	var l []span
	for i, p := range at {
		visit(reflect.ValueOf(p), func(v reflect.Value) {
			if v.Kind() == reflect.Slice && v.Cap() > 0 {
				begin := uintptr(v.UnsafePointer())
				l = append(l, span{fmt.Sprint(i, ": ", v), begin, begin + uintptr(v.Cap())*v.Type().Elem().Size()})
			}
		})
	}
	return l
}

// apart fails where two lists share memory.
func apart(t *testing.T, at ...any) {
	t.Helper()
	l := spans(at...)
	slices.SortFunc(l, func(a, b span) int { return int(a.begin) - int(b.begin) })
	for i := 1; i < len(l); i++ {
		if l[i].begin < l[i-1].end {
			t.Fatalf("%s and %s share memory", l[i-1].what, l[i].what)
		}
	}
	runtime.KeepAlive(at)
}

// spoil writes into all numbers that the pointers lead to.
func spoil(at ...any) {
	for _, p := range at {
		visit(reflect.ValueOf(p), func(v reflect.Value) {
			if v.Kind() == reflect.Int {
				v.SetInt(77)
			}
		})
	}
}

// answers is what all calls tell, behind pointers.
func answers(n api.Net, m api.Marking, o api.Mode, kind, arcs, most int) []any {
	env, a := Env(n, o.Task, o.Vars)
	needs, b := Needs(n, o)
	gives, c := Gives(n, o)
	modes, all, choices := Modes(n, m, o.Task, most), All(n, m, most), Choices(kind, arcs)
	d := Check(n, m, o)
	if Same(o, api.Mode{}) && o.Task != 0 {
		a++
	}
	return []any{&env, &needs, &gives, &modes, &all, &choices, &a, &b, &c, &d}
}

// P10.5: what is handed in stays as it is, its spare room too; what is answered may be written into, in all depths.
func TestAnswersAreNew(t *testing.T) {
	r := made{rand.New(rand.NewSource(105))}
	lists := 0
	for range 3000 {
		n := r.net()
		m, o := r.marking(n), r.mode(n)
		if l := All(n, m, 9); len(l) > 0 && r.Intn(2) == 0 {
			o = pick(r.Rand, l...)
		}
		roomy(&n)
		roomy(&m)
		roomy(&o)
		kind, arcs, most := 1+r.Intn(3), r.Intn(5), r.Intn(9)
		ahead := room(&n, &m, &o)
		first, twice := answers(n, m, o, kind, arcs, most), answers(n, m, o, kind, arcs, most)
		lists += len(spans(first...))
		apart(t, slices.Concat(first, twice, []any{&n, &m, &o})...)
		spoil(first...)
		if room(&n, &m, &o) != ahead {
			t.Fatalf("%+v, %v, %+v: changed", n, m, o)
		}
		again := answers(n, m, o, kind, arcs, most)
		spoil(&n, &m, &o)
		if !alikeAll(twice, again) {
			t.Fatalf("%v, %v", twice, again)
		}
	}
	if lists < 20000 {
		t.Errorf("%d lists", lists)
	}
}

// alikeAll tells whether answers are the same ones, lists that are none and empty ones alike.
func alikeAll(a, b []any) bool {
	tell := func(l []any) string {
		var s strings.Builder
		for _, p := range l {
			fmt.Fprintf(&s, "%+v;", reflect.ValueOf(p).Elem())
		}
		return s.String()
	}
	return tell(a) == tell(b)
}

// P10.5: an empty piece of a list shares no memory either.
func TestEmptyPieces(t *testing.T) {
	n := drawn(api.Arc{Place: 0, Expr: num(3)})
	n.Tasks[0].Vars = nil
	l := []int{7, 8}
	b := api.Bag{{0, 1}, {1, 1}}
	o := api.Mode{Vars: l[:0], Ins: l[:0], Outs: l[1:1]}
	env, _ := Env(n, 0, o.Vars)
	needs, _ := Needs(n, o)
	modes := Modes(n, api.Marking{b[:1], b[1:1], b[:0], nil}, 0, 1)
	if len(needs) != 4 || len(modes) != 1 {
		t.Fatalf("%v, %v", needs, modes)
	}
	_, _ = append(env, 5), append(modes[0].Vars, 5)
	for i := range needs {
		needs[i] = append(needs[i], [2]int{5, 5})
	}
	if !slices.Equal(l, []int{7, 8}) || !slices.Equal(b, api.Bag{{0, 1}, {1, 1}}) {
		t.Errorf("%v, %v", l, b)
	}
}

// W5: lists that are none and empty ones are alike, in all depths.
func TestEmptyAndNone(t *testing.T) {
	r := made{rand.New(rand.NewSource(55))}
	for range 2000 {
		n := r.net()
		m, o := r.marking(n), r.mode(n)
		if l := All(n, m, 9); len(l) > 0 && r.Intn(2) == 0 {
			o = pick(r.Rand, l...)
		}
		kind, arcs := 1+r.Intn(3), r.Intn(5)
		none := answers(n, m, o, kind, arcs, 5)
		var lists []reflect.Value
		for _, p := range []any{&n, &m, &o} {
			visit(reflect.ValueOf(p), func(v reflect.Value) {
				if v.Kind() == reflect.Slice && v.Len() == 0 {
					lists = append(lists, v)
				}
			})
		}
		for _, v := range lists {
			v.Set(reflect.MakeSlice(v.Type(), 0, r.Intn(3)))
		}
		if empty := answers(n, m, o, kind, arcs, 5); !alikeAll(none, empty) {
			t.Fatalf("%+v, %v, %+v", n, m, o)
		}
	}
}

// odd is numbers that may often not be.
func (r made) odd() int {
	return pick(r.Rand, 0, 1, 2, 3, 4, 5, -1, -2, 17, 1024, 1<<20, api.MaxInt, api.MaxInt-1, api.MinInt, r.Int())
}

// spoiled changes a few numbers and lists of what the pointers lead to.
func (r made) spoiled(at ...any) {
	for range r.Intn(4) {
		var l []reflect.Value
		for _, p := range at {
			visit(reflect.ValueOf(p), func(v reflect.Value) {
				if v.Kind() == reflect.Int || v.Kind() == reflect.Slice {
					l = append(l, v)
				}
			})
		}
		v := pick(r.Rand, l...)
		switch {
		case v.Kind() == reflect.Int:
			v.SetInt(int64(r.odd()))
		case v.Len() > 0 && r.Intn(2) == 0:
			v.Set(v.Slice3(0, v.Len()-1, v.Len()-1))
		default:
			row := reflect.New(v.Type().Elem()).Elem()
			visit(row, func(part reflect.Value) {
				if part.Kind() == reflect.Int {
					part.SetInt(int64(r.odd()))
				}
			})
			v.Set(reflect.Append(v.Slice3(0, v.Len(), v.Len()), row))
		}
	}
}

// W1, W3: of nets, markings and modes of any parts no call panics, and beside an error there is nothing; what Modes tells Check takes.
func TestSpoiled(t *testing.T) {
	r := made{rand.New(rand.NewSource(1))}
	wrong, modes := 0, 0
	for range 20000 {
		n := r.net()
		m, o := r.marking(n), r.mode(n)
		r.spoiled(&n, &m, &o)
		if env, err := Env(n, o.Task, o.Vars); err != api.OK && env != nil {
			t.Fatalf("%+v, %+v: %v", n, o, env)
		}
		if needs, err := Needs(n, o); err != api.OK && needs != nil || err == api.OK && len(needs) != len(n.Places) {
			t.Fatalf("%+v, %+v: %v", n, o, needs)
		}
		if gives, err := Gives(n, o); err != api.OK && gives != nil || err == api.OK && len(gives) != len(n.Places) {
			t.Fatalf("%+v, %+v: %v", n, o, gives)
		}
		l := All(n, m, 200)
		modes += len(l)
		for _, x := range l {
			if err := Check(n, m, x); err != api.OK {
				t.Fatalf("%+v, %v: %+v: %v", n, m, x, err)
			}
		}
		if err := Check(n, m, o); err == api.OK {
			if is := func(x api.Mode) bool { return Same(o, x) }; !slices.ContainsFunc(Modes(n, m, o.Task, api.MaxInt), is) {
				t.Fatalf("%+v, %v: %+v", n, m, o)
			}
		} else {
			wrong++
		}
	}
	if wrong < 5000 || modes < 5000 {
		t.Errorf("%d, %d", wrong, modes)
	}
}

// W1: numbers of parts far past all limits.
func TestGreatNets(t *testing.T) {
	n := drawn(api.Arc{Place: 0, Expr: num(3)})
	n.Colours = append(n.Colours, api.Colour{Name: "great", Kind: api.CInt, Lo: -500, Hi: 523})
	m := api.Marking{{{0, 1}}, nil, nil, nil}
	n.Tasks[0].Guard = num(0)
	n.Tasks[0].Vars = slices.Repeat([]api.Var{{Name: "x", Colour: 3}}, 16)
	if l := Modes(n, m, 0, 1); len(l) != 0 {
		t.Errorf("%+v", l)
	}
	if l := All(n, m, api.MaxInt); len(l) != 0 {
		t.Errorf("%+v", l)
	}
	n.Tasks[0].Vars = slices.Repeat([]api.Var{{Name: "x", Colour: 3}}, 1<<16)
	if l := All(n, m, api.MaxInt); len(l) != 0 {
		t.Errorf("%+v", l)
	}
	n.Tasks[0].Vars[9].Colour = -1
	if l := All(n, m, api.MaxInt); len(l) != 0 {
		t.Errorf("%+v", l)
	}
	n.Tasks[0].Guard = num(1)
	if err := Check(n, m, api.Mode{Vars: make([]int, 1<<16), Ins: []int{0}, Outs: []int{0}}); err != api.ErrArg {
		t.Error(err)
	}
	n.Tasks[0].Vars = []api.Var{{Name: "x", Colour: 3}}
	n.Tasks[0].Ins = slices.Repeat(n.Tasks[0].Ins, 1<<16)
	if l := All(n, m, api.MaxInt); len(l) != 0 {
		t.Errorf("%+v", l)
	}
	if need, err := Needs(n, api.Mode{Vars: []int{0}, Ins: upTo(1 << 16)}); err != api.OK || need[0][0] != [2]int{0, 1 << 16} {
		t.Errorf("%v, %v", need, err)
	}
	n.Tasks[0].Ins = n.Tasks[0].Ins[:1]
	n.Tasks[0].Vars = nil
	n.Tasks = slices.Repeat(n.Tasks, 1<<12)
	if l := All(n, m, api.MaxInt); len(l) != 1<<12 || l[1<<12-1].Task != 1<<12-1 {
		t.Errorf("%d", len(l))
	}
}

// The README's example.
func TestReadme(t *testing.T) {
	n := load(t, "colour n = int 5 .. 8; place a: n; place b: n; task t { var x: n; when x != 6; join or; in a(x); in b(x); out b(x + 1); } from a; to b;")
	m := api.Marking{{{0, 1}, {1, 1}, {2, 1}}, {{2, 1}}}
	one, two := api.Mode{Vars: []int{0}, Ins: []int{0}, Outs: []int{0}}, api.Mode{Vars: []int{2}, Ins: []int{0, 1}, Outs: []int{0}}
	if l := Modes(n, m, 0, 9); !allAlike(l, []api.Mode{one, two}) {
		t.Errorf("%+v", l)
	}
	if l := All(n, m, 1); !allAlike(l, []api.Mode{one}) {
		t.Errorf("%+v", l)
	}
	o := api.Mode{Vars: []int{2}, Ins: []int{0, 1}, Outs: []int{0}}
	if env, err := Env(n, 0, o.Vars); err != api.OK || !slices.Equal(env, []int{7}) {
		t.Errorf("%v, %v", env, err)
	}
	if need, err := Needs(n, o); err != api.OK || !sameRows(need, api.Marking{{{2, 1}}, {{2, 1}}}) {
		t.Errorf("%v, %v", need, err)
	}
	if give, err := Gives(n, o); err != api.OK || !sameRows(give, api.Marking{nil, {{3, 1}}}) {
		t.Errorf("%v, %v", give, err)
	}
	for _, x := range []struct {
		o    api.Mode
		want api.Errno
	}{
		{o, api.OK},
		{api.Mode{Vars: []int{1}, Ins: []int{0}, Outs: []int{0}}, api.ErrGuard},
		{api.Mode{Vars: []int{2}, Ins: []int{0}, Outs: []int{0}}, api.ErrMode},
		{api.Mode{Vars: []int{3}, Ins: []int{0}, Outs: []int{0}}, api.ErrToken},
	} {
		if err := Check(n, m, x.o); err != x.want {
			t.Errorf("%+v: %v", x.o, err)
		}
	}
}
