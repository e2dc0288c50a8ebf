package bag

import (
	"fmt"
	"math/rand"
	"slices"
	"testing"

	"baldric/api"
)

// wrong is bags that are not right, each for one reason.
func wrong() map[string]api.Bag {
	return map[string]api.Bag{
		"a count of 0":              {{1, 0}},
		"a count below 0":           {{1, -1}},
		"the least count":           {{1, api.MinInt}},
		"a count past the most":     {{1, api.MaxCount + 1}},
		"the greatest count":        {{1, api.MaxInt}},
		"a count past 2^32":         {{1, 1<<32 + 1}},
		"a member below 0":          {{-1, 1}},
		"the least member":          {{api.MinInt, 1}},
		"below 0 ahead of another":  {{-1, 1}, {0, 1}},
		"a member twice":            {{3, 1}, {3, 1}},
		"a member twice, at 0":      {{0, 1}, {0, 2}},
		"members that fall":         {{3, 1}, {2, 1}},
		"members that fall later":   {{1, 1}, {3, 1}, {2, 1}},
		"a member again":            {{1, 1}, {2, 1}, {1, 1}},
		"a count of 0 at the end":   {{1, 1}, {2, 0}},
		"a count of 0 amid":         {{1, 1}, {2, 0}, {3, 1}},
		"a count past at the end":   {{1, 1}, {2, 1}, {3, api.MaxCount + 1}},
		"a count past ahead":        {{0, api.MaxCount + 1}, {2, 1}, {3, 1}},
		"counts that come to right": {{0, 2}, {1, -1}},
	}
}

// right is bags that are right, the edges of members and counts among them.
func right() []api.Bag {
	return []api.Bag{
		nil, {}, {{0, 1}}, {{0, api.MaxCount}}, {{1, 1}}, {{api.MaxInt, 1}}, {{api.MaxInt, api.MaxCount}},
		{{0, 1}, {1, 1}}, {{0, api.MaxCount}, {api.MaxInt, api.MaxCount}}, {{2, 1}, {5, 2}}, {{2, 3}, {4, 1}, {9, 2}},
	}
}

// small is all bags of the members 0 to 2 with at most 2 of each.
func small() []api.Bag {
	var l []api.Bag
	for n := range 27 {
		l = append(l, told([]int{n / 9, n / 3 % 3, n % 3}))
	}
	return l
}

// told is the bag of counts that stand at their members' places.
func told(n []int) api.Bag {
	b := api.Bag{}
	for m, k := range n {
		if k > 0 {
			b = append(b, [2]int{m, k})
		}
	}
	return b
}

// laid is the counts of b, of the members below size, at their places.
func laid(b api.Bag, size int) []int {
	n := make([]int, size)
	for _, row := range b {
		n[row[0]] = row[1]
	}
	return n
}

// alike tells whether two bags have the same rows.
func alike(a, b api.Bag) bool { return slices.Equal(a, b) }

// some is a bag of members below size, with at most most of each.
func some(r *rand.Rand, size, most int) api.Bag {
	n := make([]int, size)
	for m := range n {
		if r.Intn(2) == 0 {
			n[m] = r.Intn(most + 1)
		}
	}
	return told(n)
}

// P3.1
func TestRight(t *testing.T) {
	for _, b := range right() {
		if !Right(b) {
			t.Errorf("Right(%v): no", b)
		}
	}
	for why, b := range wrong() {
		if Right(b) {
			t.Errorf("Right(%v): yes, but has %s", b, why)
		}
	}
}

// P3.1
func TestOf(t *testing.T) {
	for _, c := range []struct {
		l    []int
		want api.Bag
	}{
		{nil, nil},
		{[]int{}, nil},
		{[]int{0}, api.Bag{{0, 1}}},
		{[]int{5, 2, 5}, api.Bag{{2, 1}, {5, 2}}},
		{[]int{-1}, nil},
		{[]int{-1, 0, api.MinInt, 0, -7}, api.Bag{{0, 2}}},
		{[]int{api.MaxInt, 0, api.MaxInt}, api.Bag{{0, 1}, {api.MaxInt, 2}}},
		{[]int{9, 8, 7, 1, 2, 3, 9}, api.Bag{{1, 1}, {2, 1}, {3, 1}, {7, 1}, {8, 1}, {9, 2}}},
	} {
		if b := Of(c.l...); !alike(b, c.want) || !Right(b) {
			t.Errorf("Of(%v): %v", c.l, b)
		}
	}
}

// P3.1: what is more than MaxCount of one member is left out, and nothing else.
func TestOfMany(t *testing.T) {
	for _, more := range []int{-1, 0, 1, 2, 1000} {
		l := make([]int, 0, api.MaxCount+1010)
		l = append(l, 9, 3)
		for range api.MaxCount + more {
			l = append(l, 5)
		}
		l = append(l, 9, 4)
		want := api.Bag{{3, 1}, {4, 1}, {5, api.MaxCount + min(more, 0)}, {9, 2}}
		if b := Of(l...); !alike(b, want) {
			t.Errorf("Of MaxCount%+d: %v", more, b)
		}
	}
}

// P3.1: of a bag that is not right nothing is told, on whichever side it stands.
func TestNotRight(t *testing.T) {
	for why, b := range wrong() {
		for _, m := range []int{-1, 0, 1, 2, 3, api.MinInt} {
			if n := Count(b, m); n != 0 {
				t.Errorf("%s: Count %d: %d", why, m, n)
			}
		}
		if n := Total(b); n != 0 {
			t.Errorf("%s: Total %d", why, n)
		}
		for _, most := range []int{api.MinInt, 0, 1, 2, 100, api.MaxInt} {
			if l := List(b, most); len(l) != 0 {
				t.Errorf("%s: List %d: %v", why, most, l)
			}
		}
		for _, other := range append(right(), b, api.Bag{{7, -7}}) {
			checkNone(t, why, b, other)
			checkNone(t, why, other, b)
		}
	}
}

// checkNone holds the calls on a and b against those on bags of which one is not right.
func checkNone(t *testing.T, why string, a, b api.Bag) {
	t.Helper()
	if s, e := Sum(a, b); len(s) != 0 || e != api.ErrArg {
		t.Errorf("%s: Sum(%v, %v): %v, %v", why, a, b, s, e)
	}
	if s, e := Less(a, b); len(s) != 0 || e != api.ErrArg {
		t.Errorf("%s: Less(%v, %v): %v, %v", why, a, b, s, e)
	}
	if Within(a, b) || Same(a, b) {
		t.Errorf("%s: Within or Same(%v, %v)", why, a, b)
	}
	if s := Most(a, b); len(s) != 0 {
		t.Errorf("%s: Most(%v, %v): %v", why, a, b, s)
	}
	if c := Compare(a, b); c != 0 {
		t.Errorf("%s: Compare(%v, %v): %d", why, a, b, c)
	}
}

// P3.2
func TestCountAndTotal(t *testing.T) {
	b := api.Bag{{0, 3}, {2, 1}, {5, api.MaxCount}, {api.MaxInt, 2}}
	for m, want := range map[int]int{0: 3, 1: 0, 2: 1, 3: 0, 4: 0, 5: api.MaxCount, 6: 0, -1: 0, api.MinInt: 0, api.MaxInt - 1: 0, api.MaxInt: 2} {
		if n := Count(b, m); n != want {
			t.Errorf("Count %d: %d", m, n)
		}
		if n := Count(nil, m); n != 0 {
			t.Errorf("Count %d of none: %d", m, n)
		}
	}
	if n := Total(b); n != 6+api.MaxCount {
		t.Errorf("Total %d", n)
	}
	if n := Total(nil); n != 0 {
		t.Errorf("Total of none: %d", n)
	}
}

// P3.2: a bag that is greater than could be listed is counted all the same.
func TestTotalOfMany(t *testing.T) {
	b := make(api.Bag, 1<<13)
	for i := range b {
		b[i] = [2]int{2 * i, api.MaxCount}
	}
	if n := Total(b); n != 1<<33 {
		t.Errorf("Total %d", n)
	}
	if l := List(b, 3); !slices.Equal(l, []int{0, 0, 0}) {
		t.Errorf("List %v", l)
	}
	if l := List(b, api.MaxCount+1); len(l) != api.MaxCount+1 || l[api.MaxCount-1] != 0 || l[api.MaxCount] != 2 {
		t.Errorf("List of %d", len(l))
	}
	for _, m := range []int{0, 2, 1 << 12, 1<<14 - 2} {
		if Count(b, m) != api.MaxCount || Count(b, m+1) != 0 {
			t.Errorf("Count %d, %d", m, m+1)
		}
	}
}

// P3.2
func TestList(t *testing.T) {
	b := Of(5, 2, 5, 9, 0, 9, 9)
	all := []int{0, 2, 5, 5, 9, 9, 9}
	for most := -3; most <= len(all)+3; most++ {
		want := all[:min(max(most, 0), len(all))]
		if l := List(b, most); !slices.Equal(l, want) {
			t.Errorf("List %d: %v", most, l)
		}
	}
	if l := List(b, api.MaxInt); !slices.Equal(l, all) {
		t.Errorf("List of all: %v", l)
	}
	if l := List(b, api.MinInt); len(l) != 0 {
		t.Errorf("List of the least: %v", l)
	}
	for _, most := range []int{-1, 0, 1, api.MaxInt} {
		if l := List(nil, most); len(l) != 0 {
			t.Errorf("List of none: %v", l)
		}
	}
}

// P3.2: what is listed and gathered is as it was.
func TestListGathered(t *testing.T) {
	for _, b := range append(small(), Of(api.MaxInt, 7, 7)) {
		l := List(b, api.MaxInt)
		if len(l) != Total(b) || !slices.IsSorted(l) || !alike(Of(l...), b) {
			t.Errorf("%v is listed as %v", b, l)
		}
	}
}

// P3.3, P3.4: all calls on two bags, held against counts by places.
func TestPairs(t *testing.T) {
	for _, a := range small() {
		for _, b := range small() {
			checkPair(t, a, b, 3)
		}
	}
	r := rand.New(rand.NewSource(3))
	for range 3000 {
		size, most := 1+r.Intn(12), 1+r.Intn(4)
		a, b := some(r, size, most), some(r, size, most)
		checkPair(t, a, b, size)
		checkPair(t, a, a, size)
		if more, e := Sum(a, b); e == api.OK {
			checkPair(t, a, more, size)
			checkPair(t, more, b, size)
		}
	}
}

// checkPair holds the calls on a and b, of members below size, against what their counts tell.
func checkPair(t *testing.T, a, b api.Bag, size int) {
	t.Helper()
	x, y := laid(a, size), laid(b, size)
	sum, less, most := make([]int, size), make([]int, size), make([]int, size)
	within, back := true, true
	for m := range size {
		sum[m], less[m], most[m] = x[m]+y[m], x[m]-y[m], max(x[m], y[m])
		within = within && x[m] <= y[m]
		back = back && y[m] <= x[m]
	}
	if s, e := Sum(a, b); e != api.OK || !alike(s, told(sum)) {
		t.Errorf("Sum(%v, %v): %v, %v", a, b, s, e)
	}
	s, e := Less(a, b)
	if back && (e != api.OK || !alike(s, told(less))) || !back && (e != api.ErrToken || len(s) != 0) {
		t.Errorf("Less(%v, %v): %v, %v", a, b, s, e)
	}
	if Within(a, b) != within {
		t.Errorf("Within(%v, %v): %v", a, b, !within)
	}
	if Same(a, b) != (within && back) {
		t.Errorf("Same(%v, %v): %v", a, b, !(within && back))
	}
	if s := Most(a, b); !alike(s, told(most)) {
		t.Errorf("Most(%v, %v): %v", a, b, s)
	}
	// Counts at their places, looked at from the least member on, stand as their bags do.
	if c := Compare(a, b); c != slices.Compare(x, y) {
		t.Errorf("Compare(%v, %v): %d", a, b, c)
	}
}

// P3.3
func TestSumAtTheMost(t *testing.T) {
	most := api.MaxCount
	for _, c := range []struct {
		a, b, want api.Bag
		e          api.Errno
	}{
		{api.Bag{{4, most - 1}}, api.Bag{{4, 1}}, api.Bag{{4, most}}, api.OK},
		{api.Bag{{4, most}}, api.Bag{{4, 1}}, nil, api.ErrFull},
		{api.Bag{{4, most - 1}}, api.Bag{{4, 2}}, nil, api.ErrFull},
		{api.Bag{{4, most / 2}}, api.Bag{{4, most / 2}}, api.Bag{{4, most}}, api.OK},
		{api.Bag{{4, most}}, api.Bag{{4, most}}, nil, api.ErrFull},
		{api.Bag{{4, most}}, api.Bag{{5, most}}, api.Bag{{4, most}, {5, most}}, api.OK},
		{api.Bag{{4, most}}, nil, api.Bag{{4, most}}, api.OK},
		{api.Bag{{1, 1}, {4, most}, {7, 1}}, api.Bag{{1, 1}, {4, 1}, {7, 1}}, nil, api.ErrFull},
		{api.Bag{{1, 1}, {7, most}}, api.Bag{{1, 1}, {4, 1}, {7, 1}}, nil, api.ErrFull},
		{api.Bag{{1, most}, {7, 1}}, api.Bag{{1, 1}, {4, 1}, {7, 1}}, nil, api.ErrFull},
		{api.Bag{{api.MaxInt, most - 1}}, api.Bag{{0, 1}, {api.MaxInt, 1}}, api.Bag{{0, 1}, {api.MaxInt, most}}, api.OK},
	} {
		if s, e := Sum(c.a, c.b); e != c.e || !alike(s, c.want) {
			t.Errorf("Sum(%v, %v): %v, %v", c.a, c.b, s, e)
		}
		if s, e := Sum(c.b, c.a); e != c.e || !alike(s, c.want) {
			t.Errorf("Sum(%v, %v): %v, %v", c.b, c.a, s, e)
		}
	}
}

// P3.3
func TestLessAtTheEdges(t *testing.T) {
	most := api.MaxCount
	for _, c := range []struct {
		a, b, want api.Bag
		e          api.Errno
	}{
		{Of(5, 2, 5), Of(5), api.Bag{{2, 1}, {5, 1}}, api.OK},
		{Of(5, 2, 5), Of(5, 5), api.Bag{{2, 1}}, api.OK},
		{Of(5, 2, 5), Of(5, 2, 5), nil, api.OK},
		{Of(5, 2, 5), nil, api.Bag{{2, 1}, {5, 2}}, api.OK},
		{nil, nil, nil, api.OK},
		{nil, Of(0), nil, api.ErrToken},
		{Of(5, 2, 5), Of(5, 5, 5), nil, api.ErrToken},
		{Of(5, 2, 5), Of(2, 3), nil, api.ErrToken},
		{Of(5, 2, 5), Of(2, 5, 9), nil, api.ErrToken},
		{api.Bag{{4, most}}, api.Bag{{4, most}}, nil, api.OK},
		{api.Bag{{4, most}}, api.Bag{{4, most - 1}}, api.Bag{{4, 1}}, api.OK},
		{api.Bag{{4, most - 1}}, api.Bag{{4, most}}, nil, api.ErrToken},
		{api.Bag{{0, 1}, {api.MaxInt, most}}, api.Bag{{api.MaxInt, 1}}, api.Bag{{0, 1}, {api.MaxInt, most - 1}}, api.OK},
	} {
		if s, e := Less(c.a, c.b); e != c.e || !alike(s, c.want) {
			t.Errorf("Less(%v, %v): %v, %v", c.a, c.b, s, e)
		}
		if is := Within(c.b, c.a); is != (c.e == api.OK) {
			t.Errorf("Within(%v, %v): %v", c.b, c.a, is)
		}
	}
}

// P3.3
func TestMostAtTheEdges(t *testing.T) {
	a := api.Bag{{0, api.MaxCount}, {3, 1}, {api.MaxInt, 1}}
	b := api.Bag{{0, 1}, {4, api.MaxCount}, {api.MaxInt, api.MaxCount}}
	want := api.Bag{{0, api.MaxCount}, {3, 1}, {4, api.MaxCount}, {api.MaxInt, api.MaxCount}}
	if m := Most(a, b); !alike(m, want) {
		t.Errorf("Most: %v", m)
	}
	if m := Most(b, a); !alike(m, want) {
		t.Errorf("Most, turned round: %v", m)
	}
	if m := Most(a, nil); !alike(m, a) {
		t.Errorf("Most of one and none: %v", m)
	}
	if m := Most(nil, nil); len(m) != 0 {
		t.Errorf("Most of none: %v", m)
	}
}

// P3.4
func TestCompare(t *testing.T) {
	for _, c := range []struct {
		a, b api.Bag
		want int
	}{
		{nil, nil, 0},
		{nil, api.Bag{}, 0},
		{Of(0), nil, 1},
		{Of(api.MaxInt), nil, 1},
		{Of(1), Of(2), 1},
		{Of(1), Of(0), -1},
		{Of(1), Of(2, 2, 2, 2), 1},
		{Of(0), Of(api.MaxInt), 1},
		{Of(1, 1), Of(1), 1},
		{Of(1, 1), Of(1, 2), 1},
		{Of(1, 2), Of(1, 3), 1},
		{Of(1, 2, 3), Of(1, 3), 1},
		{Of(1, 3), Of(1, 3, 3), -1},
		{Of(1, 3), Of(1, 3, 4), -1},
		{Of(2, 3, 3), Of(2, 3, 3), 0},
		{api.Bag{{1, api.MaxCount}}, api.Bag{{1, 1}}, 1},
	} {
		if by := Compare(c.a, c.b); by != c.want {
			t.Errorf("Compare(%v, %v): %d", c.a, c.b, by)
		}
		if by := Compare(c.b, c.a); by != -c.want {
			t.Errorf("Compare(%v, %v): %d", c.b, c.a, by)
		}
	}
}

// roomy is b with spare room behind it, and the whole of it.
func roomy(b api.Bag) (api.Bag, api.Bag) {
	whole := make(api.Bag, len(b)+6)
	copy(whole, b)
	for i := len(b); i < len(whole); i++ {
		whole[i] = [2]int{-77, -77}
	}
	return whole[:len(b)], whole
}

// P3.5
func TestArgumentsStay(t *testing.T) {
	for _, x := range append(small(), api.Bag{{1, 0}}, api.Bag{{0, api.MaxCount}}) {
		for _, y := range []api.Bag{nil, Of(0), Of(1, 1), Of(0, 1, 2), Of(7), {{3, 1}, {2, 1}}} {
			a, wholeA := roomy(x)
			b, wholeB := roomy(y)
			wasA, wasB := slices.Clone(wholeA), slices.Clone(wholeB)
			Right(a)
			Count(a, 1)
			Total(a)
			List(a, 9)
			for _, s := range answers(a, b) {
				spoil(s)
			}
			if !alike(wholeA, wasA) || !alike(wholeB, wasB) {
				t.Fatalf("%v, %v became %v, %v", wasA, wasB, wholeA, wholeB)
			}
		}
	}
	l := []int{3, 1, -1, 3, 2, 8, 8}
	was := slices.Clone(l)
	Of(l[:4]...)
	if !slices.Equal(l, was) {
		t.Errorf("Of made its list %v", l)
	}
}

// answers is what the calls on a and b tell.
func answers(a, b api.Bag) []api.Bag {
	sum, _ := Sum(a, b)
	back, _ := Sum(b, a)
	less, _ := Less(a, b)
	left, _ := Less(b, a)
	return []api.Bag{sum, back, less, left, Most(a, b), Most(b, a)}
}

// spoil overwrites a bag and its spare room.
func spoil(b api.Bag) {
	b = b[:cap(b)]
	for i := range b {
		b[i] = [2]int{-99, -99}
	}
}

// P3.5: an answer is as it was when what was handed in, or another answer, is overwritten.
func TestAnswersAreNew(t *testing.T) {
	for _, x := range small() {
		for _, y := range small() {
			a, wholeA := roomy(x)
			b, wholeB := roomy(y)
			got, again := answers(a, b), answers(a, b)
			want := fmt.Sprint(got)
			spoil(wholeA)
			spoil(wholeB)
			for _, s := range again {
				spoil(s)
			}
			if fmt.Sprint(got) != want {
				t.Fatalf("answers %s became %v", want, got)
			}
		}
	}
	b := Of(1, 2, 2)
	l := List(b, 3)
	spoil(b)
	l2 := List(Of(1, 2, 2), 3)
	clear(l2[:cap(l2)])
	if !slices.Equal(l, []int{1, 2, 2}) {
		t.Errorf("List became %v", l)
	}
}

// P3.6
func TestSummedAndTakenAway(t *testing.T) {
	bags := append(small(), right()...)
	for _, a := range bags {
		for _, b := range bags {
			s, e := Sum(a, b)
			turned, f := Sum(b, a)
			if e != f || !alike(s, turned) {
				t.Fatalf("Sum(%v, %v): %v, %v; turned round %v, %v", a, b, s, e, turned, f)
			}
			if e != api.OK {
				continue
			}
			if l, e := Less(s, b); e != api.OK || !alike(l, a) || !Same(l, a) {
				t.Fatalf("%v and %v less it: %v, %v", a, b, l, e)
			}
			if !Right(s) || Total(s) != Total(a)+Total(b) || !Within(a, s) {
				t.Fatalf("Sum(%v, %v): %v", a, b, s)
			}
		}
	}
}

// P3.7
func TestCompareOrders(t *testing.T) {
	bags := append(small(), right()...)
	for _, a := range bags {
		for _, b := range bags {
			ab := Compare(a, b)
			if ab != -Compare(b, a) || (ab == 0) != Same(a, b) {
				t.Fatalf("Compare(%v, %v): %d, turned round %d", a, b, ab, Compare(b, a))
			}
			for _, c := range bags {
				if ab <= 0 && Compare(b, c) <= 0 && Compare(a, c) > 0 {
					t.Fatalf("%v, %v, %v have no order", a, b, c)
				}
			}
		}
	}
}

// P3.7
func TestSumKeepsWithin(t *testing.T) {
	bags := append(small(), right()...)
	for _, a := range bags {
		for _, b := range bags {
			for _, c := range bags {
				x, e := Sum(a, c)
				y, f := Sum(b, c)
				if e == api.OK && f == api.OK && Within(a, b) != Within(x, y) {
					t.Fatalf("Within(%v, %v), but with %v not so", a, b, c)
				}
			}
		}
	}
}
