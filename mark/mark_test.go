package mark

import (
	"math/rand"
	"slices"
	"strconv"
	"testing"

	"baldric/api"
	"baldric/bag"
)

// P9.1
func TestFirst(t *testing.T) {
	n := fine()
	if m := First(n); !alike(m, api.Marking{{{0, 3}, {3, 1}}, {{7, api.MaxCount}}, nil, nil}) {
		t.Errorf("%v", m)
	}
	for _, x := range []struct {
		what  string
		first api.Bag
		want  api.Bag
	}{
		{"no rows", nil, api.Bag{{0, 1}}},
		{"an empty bag", api.Bag{}, api.Bag{{0, 1}}},
		{"one token of 0", api.Bag{{0, 1}}, api.Bag{{0, 2}}},
		{"one token of 1", api.Bag{{1, 1}}, api.Bag{{0, 1}, {1, 1}}},
		{"several rows", api.Bag{{0, 2}, {1, 3}, {9, 1}}, api.Bag{{0, 3}, {1, 3}, {9, 1}}},
		{"several rows, none of 0", api.Bag{{2, 2}, {5, 3}}, api.Bag{{0, 1}, {2, 2}, {5, 3}}},
		{"room for one of 0", api.Bag{{0, api.MaxCount - 1}, {1, 1}}, api.Bag{{0, api.MaxCount}, {1, 1}}},
		{"no room for one of 0", api.Bag{{0, api.MaxCount}, {1, 1}}, api.Bag{{0, api.MaxCount}, {1, 1}}},
		{"all of another", api.Bag{{1, api.MaxCount}}, api.Bag{{0, 1}, {1, api.MaxCount}}},
		{"the greatest member", api.Bag{{api.MaxInt, 1}}, api.Bag{{0, 1}, {api.MaxInt, 1}}},
	} {
		for from := range 3 {
			n.From = from
			for i := range n.Places {
				n.Places[i].First = x.first
			}
			want := api.Marking{x.first, x.first, x.first, x.first}
			want[from] = x.want
			if m := First(n); !alike(m, want) {
				t.Errorf("%s, from %d: %v", x.what, from, m)
			}
		}
	}
}

// P9.1: where the sum tells an error, or there is no From, each place has its First as it is.
func TestFirstWithoutSum(t *testing.T) {
	n := fine()
	for _, b := range wrongBags() {
		n.Places[0].First, n.Places[2].First = b, b
		if m := First(n); !alike(m, api.Marking{b, {{7, api.MaxCount}}, b, nil}) {
			t.Errorf("%v: %v", b, m)
		}
	}
	n = fine()
	for _, from := range []int{-1, 4, 5, api.MaxInt, api.MinInt} {
		n.From = from
		if m := First(n); !alike(m, api.Marking{{{0, 2}, {3, 1}}, {{7, api.MaxCount}}, nil, nil}) {
			t.Errorf("from %d: %v", from, m)
		}
	}
	if m := First(api.Net{}); len(m) != 0 {
		t.Errorf("%v", m)
	}
	// Colours do not count, nor does the limit of places.
	if m := First(api.Net{Places: make([]api.Place, 100), From: 99}); len(m) != 100 || !slices.Equal(m[99], api.Bag{{0, 1}}) || Total(m) != 1 {
		t.Errorf("%v", m)
	}
}

// P9.1
func TestRight(t *testing.T) {
	n := fine()
	for _, x := range []struct {
		m    api.Marking
		want bool
	}{
		{api.Marking{nil, nil, nil, nil}, true},
		{api.Marking{{}, nil, {}, {}}, true},
		{api.Marking{{{0, 1}}, {{0, 1}}, {{0, 1}}, {{0, 1}}}, true},
		{api.Marking{{{3, 1}}, {{7, 1}}, {{1, 1}}, {{3, 1}}}, true},
		{api.Marking{{{4, 1}}, nil, nil, nil}, false},
		{api.Marking{nil, {{8, 1}}, nil, nil}, false},
		{api.Marking{nil, nil, {{2, 1}}, nil}, false},
		{api.Marking{nil, nil, nil, {{4, 1}}}, false},
		{api.Marking{nil, nil, nil, {{0, 1}, {4, 1}}}, false},
		{api.Marking{nil, nil, {{api.MaxInt, 1}}, nil}, false},
		{api.Marking{nil, nil, {{1 << 32, 1}}, nil}, false},
		{api.Marking{{{0, 1}, {1, 2}, {2, 3}, {3, api.MaxCount}}, {{0, 1}, {7, api.MaxCount}}, nil, nil}, true},
		{nil, false}, {api.Marking{}, false}, {api.Marking{nil}, false},
		{api.Marking{nil, nil, nil}, false},
		{api.Marking{nil, nil, nil, nil, nil}, false},
		{api.Marking{{{0, 1}}, {{0, 1}}, {{0, 1}}}, false},
		{api.Marking{{{0, 1}}, {{0, 1}}, {{0, 1}}, {{0, 1}}, {{0, 1}}}, false},
	} {
		if is := Right(n, x.m); is != x.want {
			t.Errorf("%v: %v", x.m, is)
		}
	}
	for _, b := range wrongBags() {
		for i := range 4 {
			m := make(api.Marking, 4)
			m[i] = b
			if Right(n, m) {
				t.Errorf("%v", m)
			}
		}
	}
	if !Right(n, First(n)) {
		t.Errorf("%v", First(n))
	}
}

// P9.1: places whose colour is none, and colours that can't stand together, have no members, yet bags without rows.
func TestRightWithoutColours(t *testing.T) {
	for _, c := range []int{-1, 3, 4, api.MaxInt, api.MinInt} {
		n := fine()
		n.Places[2].Colour = c
		if !Right(n, make(api.Marking, 4)) || !Right(n, api.Marking{{{3, 1}}, nil, {}, nil}) || Right(n, api.Marking{nil, nil, {{0, 1}}, nil}) {
			t.Errorf("colour %d", c)
		}
	}
	n := fine()
	n.Colours[2].Name = "n"
	if !Right(n, make(api.Marking, 4)) || Right(n, api.Marking{{{0, 1}}, nil, nil, nil}) {
		t.Error("two colours of one name")
	}
	if !Right(api.Net{}, nil) || !Right(api.Net{}, api.Marking{}) || Right(api.Net{}, make(api.Marking, 1)) || !Right(api.Net{Places: make([]api.Place, 65)}, make(api.Marking, 65)) {
		t.Error("no colours")
	}
}

// P9.2
func TestSameAndWithin(t *testing.T) {
	for _, x := range []struct {
		a, b         api.Marking
		same, within bool
	}{
		{nil, nil, true, true},
		{nil, api.Marking{}, true, true},
		{nil, api.Marking{nil}, false, false},
		{api.Marking{nil}, nil, false, false},
		{api.Marking{nil}, api.Marking{{}}, true, true},
		{api.Marking{nil}, api.Marking{{{0, 1}}}, false, true},
		{api.Marking{{{0, 1}}}, api.Marking{nil}, false, false},
		{api.Marking{{{0, 1}}, nil}, api.Marking{{{0, 1}}}, false, false},
		{api.Marking{{{0, 1}}}, api.Marking{{{0, 1}}, nil}, false, false},
		{api.Marking{{{0, 1}}}, api.Marking{{{0, 1}}, {{0, 1}}}, false, false},
		{api.Marking{{{0, 1}}, {{2, 3}}}, api.Marking{{{0, 1}}, {{2, 3}}}, true, true},
		{api.Marking{{{0, 1}}, {{2, 3}}}, api.Marking{{{0, 1}}, {{2, 4}}}, false, true},
		{api.Marking{{{0, 1}}, {{2, 3}}}, api.Marking{{{0, 1}}, {{2, 2}}}, false, false},
		{api.Marking{{{0, 1}}, {{2, 3}}}, api.Marking{{{0, 9}}, {{2, 2}}}, false, false},
		{api.Marking{{{0, 1}}, {{2, 3}}}, api.Marking{{{2, 3}}, {{0, 1}}}, false, false},
		{api.Marking{nil, {{2, 3}}}, api.Marking{{{1, 1}, {2, 1}}, {{1, 1}, {2, 3}, {4, 1}}}, false, true},
		{api.Marking{{{api.MaxInt, api.MaxCount}}}, api.Marking{{{api.MaxInt, api.MaxCount}}}, true, true},
		{api.Marking{{{0, 1}}, {{1, 1}}, {{2, 1}}}, api.Marking{{{0, 1}}, {{1, 1}}, {{3, 1}}}, false, false},
	} {
		if is := Same(x.a, x.b); is != x.same || Same(x.b, x.a) != x.same {
			t.Errorf("%v and %v are the same: %v", x.a, x.b, is)
		}
		if is := Within(x.a, x.b); is != x.within {
			t.Errorf("%v is within %v: %v", x.a, x.b, is)
		}
	}
	// A bag that is not right is neither the same as itself, nor within.
	for _, b := range wrongBags() {
		for _, m := range []api.Marking{{b}, {nil, b}, {b, nil}, {{{0, 1}}, b}} {
			none := make(api.Marking, len(m))
			if Same(m, m) || Within(m, m) || Same(m, none) || Same(none, m) || Within(m, none) || Within(none, m) {
				t.Errorf("%v", m)
			}
		}
	}
}

// P9.2
func TestCompare(t *testing.T) {
	for _, x := range []struct {
		a, b api.Marking
		want int
	}{
		{nil, nil, 0},
		{nil, api.Marking{}, 0},
		{api.Marking{nil}, nil, 1},
		{api.Marking{nil, nil}, api.Marking{{{0, 9}}}, 1},
		{api.Marking{nil, nil, nil}, api.Marking{nil, {{0, 9}}}, 1},
		{api.Marking{nil}, api.Marking{{}}, 0},
		{api.Marking{{{0, 1}}}, api.Marking{nil}, 1},
		{api.Marking{{{0, 1}}}, api.Marking{{{0, 1}}}, 0},
		{api.Marking{{{0, 2}}}, api.Marking{{{0, 1}}}, 1},
		{api.Marking{{{0, 1}}}, api.Marking{{{1, 5}}}, 1},
		{api.Marking{{{1, 1}}, {{0, 1}}}, api.Marking{{{1, 1}}, nil}, 1},
		{api.Marking{nil, nil, nil, {{0, 1}, {7, 2}}}, api.Marking{nil, nil, nil, {{0, 1}, {7, 1}}}, 1},
		{api.Marking{{{0, 2}}, nil}, api.Marking{{{0, 1}}, {{0, 9}}}, 1},
		{api.Marking{nil, {{0, 1}}, nil}, api.Marking{nil, nil, {{0, 9}}}, 1},
		// Bags of which one is not right do not tell, those behind them do.
		{api.Marking{{{0, 0}}}, api.Marking{nil}, 0},
		{api.Marking{{{0, 0}}, {{0, 1}}}, api.Marking{{{5, 5}}, nil}, 1},
		{api.Marking{{{0, -7}}, nil}, api.Marking{{{1, 1}, {0, 1}}, nil}, 0},
		{api.Marking{{{0, 0}}, nil}, api.Marking{{{0, 0}}}, 1},
	} {
		if by := Compare(x.a, x.b); by != x.want {
			t.Errorf("%v by %v: %d", x.a, x.b, by)
		}
		if by := Compare(x.b, x.a); by != -x.want {
			t.Errorf("%v by %v: %d", x.b, x.a, by)
		}
	}
}

// P9.2
func TestTotal(t *testing.T) {
	for _, x := range []struct {
		m    api.Marking
		want int
	}{
		{nil, 0}, {api.Marking{}, 0}, {api.Marking{nil, {}}, 0},
		{api.Marking{{{0, 1}}}, 1},
		{api.Marking{{{0, 2}, {5, 3}}, nil, {{9, 4}}}, 9},
		{slices.Repeat(api.Marking{{{0, api.MaxCount}, {api.MaxInt, api.MaxCount}}}, 64), 1 << 27},
		{api.Marking{{{0, 1}}, {{0, 0}, {1, 5}}, {{0, 2}}}, 3},
		{api.Marking{{{0, 5}, {0, 5}}}, 0},
	} {
		if n := Total(x.m); n != x.want {
			t.Errorf("%v: %d", x.m, n)
		}
	}
}

// P9.2: every count of To from 0 to 2, and of another place from 0 to 1.
func TestFinalAndEnded(t *testing.T) {
	n := fine()
	for to := range 4 {
		n.To = to
		for other := range 4 {
			for count := range 3 {
				for beside := range 2 {
					if other == to && beside > 0 {
						continue
					}
					m := make(api.Marking, 4)
					m[other] = bag.Of(slices.Repeat([]int{1}, beside)...)
					m[to] = bag.Of(slices.Repeat([]int{2}, count)...)
					if is := Final(n, m); is != (count == 1 && beside == 0) {
						t.Errorf("to %d: %v is final: %v", to, m, is)
					}
					if is := Ended(n, m); is != (count > 0) {
						t.Errorf("to %d: %v has ended: %v", to, m, is)
					}
				}
			}
		}
	}
}

// P9.2
func TestFinalAndEndedAtEdges(t *testing.T) {
	n := fine()
	one := api.Bag{{0, 1}}
	for _, x := range []struct {
		what         string
		to           int
		m            api.Marking
		final, ended bool
	}{
		{"a bag less", 2, api.Marking{nil, nil, one}, false, true},
		{"a bag less, which is that of To", 3, api.Marking{nil, nil, one}, false, false},
		{"a bag more", 3, api.Marking{nil, nil, nil, one, nil}, false, true},
		{"a bag more, which is that of To", 4, api.Marking{nil, nil, nil, nil, one}, false, false},
		{"no bags", 0, nil, false, false},
		{"no bags, To below 0", -1, nil, false, false},
		{"To below 0", -1, api.Marking{nil, nil, nil, one}, false, false},
		{"To below 0, nothing there", -1, make(api.Marking, 4), false, false},
		{"To behind the last", 4, api.Marking{nil, nil, nil, one}, false, false},
		{"To behind the last, nothing there", 4, make(api.Marking, 4), false, false},
		{"To far above", api.MaxInt, api.Marking{one, nil, nil, nil}, false, false},
		{"To far below", api.MinInt, api.Marking{one, nil, nil, nil}, false, false},
		{"two members at To", 3, api.Marking{nil, nil, nil, {{0, 1}, {1, 1}}}, false, true},
		{"a member that its colour has not", 3, api.Marking{nil, nil, nil, {{99, 1}}}, true, true},
		{"one at To, one less than none elsewhere", 3, api.Marking{{{0, -1}}, nil, nil, {{0, 2}}}, false, true},
		{"a bag at To that is not right", 3, api.Marking{nil, nil, nil, {{-1, 1}}}, false, false},
		{"a bag elsewhere that is not right", 3, api.Marking{{{0, 0}, {1, 1}}, nil, nil, one}, true, true},
		{"as many as there may be", 3, api.Marking{nil, nil, nil, {{0, api.MaxCount}}}, false, true},
	} {
		n.To = x.to
		if final, ended := Final(n, x.m), Ended(n, x.m); final != x.final || ended != x.ended {
			t.Errorf("%s: %v, %v", x.what, final, ended)
		}
	}
	if Final(api.Net{}, nil) || Ended(api.Net{}, nil) || Ended(api.Net{}, api.Marking{one}) || Final(api.Net{}, api.Marking{one}) {
		t.Error("a net without places")
	}
	if n := (api.Net{Places: make([]api.Place, 1)}); !Final(n, api.Marking{one}) || !Ended(n, api.Marking{one}) {
		t.Error("a net of one place")
	}
}

// P9.4
func TestText(t *testing.T) {
	for _, x := range []struct {
		m    api.Marking
		want string
	}{
		{nil, "{}"}, {api.Marking{}, "{}"}, {make(api.Marking, 4), "{}"}, {api.Marking{{}, {}, {}, {}}, "{}"},
		{api.Marking{{{0, 2}}, nil, nil, nil}, "{a: -1*2}"},
		{api.Marking{{{0, 2}}}, "{a: -1*2}"},
		{api.Marking{{{0, 2}, {1, 1}, {3, api.MaxCount}}}, "{a: -1*2 0*1 2*1048576}"},
		{api.Marking{nil, {{0, 1}, {7, 12}}}, "{b: (red,-1)*1 (blue,2)*12}"},
		{api.Marking{nil, nil, {{0, 1}, {1, 3}}, nil}, "{d: red*1 blue*3}"},
		{api.Marking{{{2, 1}}, nil, {{1, 1}}, {{3, 4}}}, "{a: 1*1, d: blue*1, e: 2*4}"},
		{api.Marking{nil, nil, nil, {{3, 1}}, {{0, 1}}, nil}, "{e: 2*1}"},
		{api.Marking{nil, nil, nil, nil, {{0, 1}}}, "{}"},
		// What is no member, and what is no bag, is written as it stands.
		{api.Marking{{{4, 1}}, {{8, 1}}, {{2, 1}}, {{api.MaxInt, 1}}}, "{a: ?*1, b: ?*1, d: ?*1, e: ?*1}"},
		{api.Marking{{{3, 1}, {-1, 0}, {3, -5}, {0, api.MinInt}, {0, api.MaxInt}}}, "{a: 2*1 ?*0 2*-5 -1*-9223372036854775808 -1*9223372036854775807}"},
	} {
		if s := Text(fine(), x.m); s != x.want {
			t.Errorf("%v: %s", x.m, s)
		}
	}
	n := fine()
	n.Places[0].Name, n.Places[1].Name, n.Places[2].Colour, n.Places[3].Colour = "", "{x, y: }", 3, -1
	if s := Text(n, api.Marking{{{0, 1}}, {{0, 1}}, {{0, 1}}, {{0, 1}}}); s != "{: -1*1, {x, y: }: (red,-1)*1, d: ?*1, e: ?*1}" {
		t.Error(s)
	}
	if s := Text(api.Net{}, api.Marking{{{0, 1}}}); s != "{}" {
		t.Error(s)
	}
	// Limits of places do not count.
	n = api.Net{Places: slices.Repeat([]api.Place{{Name: "p"}}, 66)}
	m := make(api.Marking, 66)
	m[65] = api.Bag{{0, 1}}
	if s := Text(n, m); s != "{p: ?*1}" {
		t.Error(s)
	}
}

// P9.4: what is no bag is copied as it stands.
func TestCopy(t *testing.T) {
	for _, m := range []api.Marking{
		nil, {}, {nil}, {{}}, {nil, {}, nil}, {{{0, 1}}}, {{{0, 1}, {7, api.MaxCount}}, nil, {{api.MaxInt, 1}}},
		wrongBags(), slices.Repeat(api.Marking{{{5, 5}}}, 70),
	} {
		if l := Copy(m); !alike(l, m) {
			t.Errorf("%v: %v", m, l)
		}
	}
}

// P9.1, P9.2, P9.4: all calls, held against a second telling.
func TestAgainstSecond(t *testing.T) {
	r := made{rand.New(rand.NewSource(9))}
	var s second
	seen := map[string]int{}
	count := func(what string, is bool) { seen[what+" "+strconv.FormatBool(is)]++ }
	for range 60000 {
		n := r.net()
		a := pick(r.Rand, r.marking, r.tame)(r.Intn(5))
		if r.Intn(2) == 0 {
			a = pick(r.Rand, r.marking, r.tame)(len(n.Places))
		}
		if r.Intn(8) == 0 && len(a) > 0 {
			a = make(api.Marking, len(n.Places))
			if n.To >= 0 && n.To < len(a) {
				a[n.To] = api.Bag{{r.Intn(3), 1 + r.Intn(2)}}
			}
		}
		b := pick(r.Rand, r.near, func(api.Marking) api.Marking { return r.tame(len(a)) })(a)
		if m := First(n); !alike(m, s.first(n)) {
			t.Fatalf("%+v: First %v", n, m)
		}
		if is := Right(n, a); is != s.right(n, a) {
			t.Fatalf("%+v, %v: Right %v", n, a, is)
		}
		if is := Same(a, b); is != s.same(a, b) {
			t.Fatalf("%v, %v: Same %v", a, b, is)
		}
		if is := Within(a, b); is != s.within(a, b) {
			t.Fatalf("%v, %v: Within %v", a, b, is)
		}
		if by := Compare(a, b); by != s.compare(a, b) {
			t.Fatalf("%v, %v: Compare %v", a, b, by)
		}
		if total := Total(a); total != s.total(a) {
			t.Fatalf("%v: Total %d", a, total)
		}
		if is := Final(n, a); is != s.final(n, a) {
			t.Fatalf("%+v, %v: Final %v", n, a, is)
		}
		if is := Ended(n, a); is != s.ended(n, a) {
			t.Fatalf("%+v, %v: Ended %v", n, a, is)
		}
		if text := Text(n, a); text != s.text(n, a) {
			t.Fatalf("%+v, %v: Text %s", n, a, text)
		}
		if m := Copy(a); !alike(m, a) {
			t.Fatalf("%v: Copy %v", a, m)
		}
		count("Right", Right(n, a))
		count("Same", Same(a, b))
		count("Within", Within(a, b) && !Same(a, b))
		count("Compare", Compare(a, b) != 0)
		count("Final", Final(n, a))
		count("Ended", Ended(n, a))
	}
	for what, times := range seen {
		if times < 1000 {
			t.Errorf("%s: %d times alone", what, times)
		}
	}
	if len(seen) != 12 {
		t.Errorf("%v", seen)
	}
}
