package colour

import (
	"fmt"
	"math/rand"
	"reflect"
	"slices"
	"strings"
	"testing"

	"baldric/api"
)

func ints(name string, lo, hi int) api.Colour {
	return api.Colour{Name: name, Kind: api.CInt, Lo: lo, Hi: hi}
}

func enum(name string, names ...string) api.Colour {
	return api.Colour{Name: name, Kind: api.CEnum, Names: names}
}

func pair(name string, first, then int) api.Colour {
	return api.Colour{Name: name, Kind: api.CPair, First: first, Then: then}
}

// names is n names that are all different.
func names(n int) []string {
	l := make([]string, n)
	for i := range l {
		l[i] = fmt.Sprintf("x%d", i)
	}
	return l
}

// mixed is colours of all kinds, pairs of pairs among them.
func mixed() []api.Colour {
	return []api.Colour{
		ints("n", 3, 5), enum("c", "red", "blue"), pair("p", 0, 1),
		ints("low", api.MinInt, api.MinInt+2), ints("high", api.MaxInt-2, api.MaxInt),
		pair("q", 2, 3), pair("r", 4, 2), pair("s", 2, 2), ints("z", -1, 0), pair("t", 8, 8),
		enum("one", "only"), pair("u", 10, 7), pair("v", 11, 10),
	}
}

// wrong is colours that are not right, each for one reason.
func wrong() map[string][]api.Colour {
	many := make([]api.Colour, api.MaxColours+1)
	for i := range many {
		many[i] = ints(fmt.Sprintf("k%d", i), 0, 0)
	}
	return map[string][]api.Colour{
		"too many":             many,
		"no name":              {ints("", 0, 1)},
		"a name that is none":  {ints("1a", 0, 1)},
		"a name too long":      {ints(strings.Repeat("a", api.MaxName+1), 0, 1)},
		"a name twice":         {ints("a", 0, 1), enum("b", "x"), enum("a", "x")},
		"kind 0":               {{Name: "a", Names: []string{"x"}}},
		"kind 4":               {{Name: "a", Kind: 4, Names: []string{"x"}}},
		"kind -1":              {{Name: "a", Kind: -1, Names: []string{"x"}}},
		"kind past 2^32":       {{Name: "a", Kind: 1<<32 + api.CInt}},
		"Lo above Hi":          {ints("a", 1, 0)},
		"Lo far above Hi":      {ints("a", api.MaxInt, api.MinInt)},
		"Lo so far that round": {ints("a", api.MaxInt, api.MinInt+5)},
		"all numbers":          {ints("a", api.MinInt, api.MaxInt)},
		"nearly all":           {ints("a", api.MinInt, api.MaxInt-1)},
		"upper half":           {ints("a", -1, api.MaxInt)},
		"ints, one past":       {ints("a", 0, api.MaxMembers)},
		"ints past, low":       {ints("a", api.MinInt, api.MinInt+api.MaxMembers)},
		"ints past, high":      {ints("a", api.MaxInt-api.MaxMembers, api.MaxInt)},
		"no names":             {enum("a")},
		"names, one past":      {enum("a", names(api.MaxMembers+1)...)},
		"names alike":          {enum("a", "x", "y", "x")},
		"an empty name":        {enum("a", "x", "")},
		"a bracket in a name":  {enum("a", "x(")},
		"a long name":          {enum("a", "x", strings.Repeat("y", api.MaxName+1))},
		"a pair of itself":     {pair("a", 0, 0)},
		"then of itself":       {ints("a", 0, 1), pair("b", 0, 1)},
		"first of itself":      {ints("a", 0, 1), pair("b", 1, 0)},
		"first later":          {ints("a", 0, 1), pair("b", 2, 0), ints("c", 0, 1)},
		"then later":           {ints("a", 0, 1), pair("b", 0, 2), ints("c", 0, 1)},
		"first below 0":        {ints("a", 0, 1), pair("b", -1, 0)},
		"then below 0":         {ints("a", 0, 1), pair("b", 0, -1)},
		"then past all":        {ints("a", 0, 1), pair("b", 0, api.MaxInt)},
		"a pair, one past":     {ints("a", 0, 24), ints("b", 0, 40), pair("c", 0, 1)}, // 1025
		"a great pair":         {ints("a", 0, 1023), pair("b", 0, 0)},
		"the last alone":       append(mixed(), ints("last", 1, 0)),
	}
}

// P2.1
func TestName(t *testing.T) {
	for c := range 256 {
		b := string([]byte{byte(c)})
		letter := strings.Contains("abcdefghijklmnopqrstuvwxyzABCDEFGHIJKLMNOPQRSTUVWXYZ", b)
		inner := letter || strings.Contains("0123456789_", b)
		if Name(b) != letter || Name(b+"a") != letter {
			t.Errorf("ahead: %q", b)
		}
		if Name("a"+b) != inner || Name("a"+b+"a") != inner || Name("Z9_"+b) != inner {
			t.Errorf("within: %q", b)
		}
	}
	for n := range api.MaxName + 3 {
		if Name(strings.Repeat("a", n)) != (n >= 1 && n <= api.MaxName) {
			t.Errorf("%d bytes", n)
		}
	}
	for _, s := range []string{"é", "aé", "a\xff", "a ", " a", "a\n"} {
		if Name(s) {
			t.Errorf("%q", s)
		}
	}
}

// P2.1
func TestRight(t *testing.T) {
	full := []api.Colour{ints("a0", 0, 0)}
	for i := 1; i < api.MaxColours; i++ {
		full = append(full, pair(fmt.Sprintf("a%d", i), i-1, 0))
	}
	long := strings.Repeat("a", api.MaxName)
	for what, l := range map[string][]api.Colour{
		"none":         nil,
		"empty":        {},
		"mixed":        mixed(),
		"MaxColours":   full,
		"ints at most": {ints("a", 0, api.MaxMembers-1)},
		"low end":      {ints("a", api.MinInt, api.MinInt+api.MaxMembers-1)},
		"high end":     {ints("a", api.MaxInt-api.MaxMembers+1, api.MaxInt)},
		"one int":      {ints("a", api.MinInt, api.MinInt), ints("b", api.MaxInt, api.MaxInt)},
		"enum at most": {enum("a", names(api.MaxMembers)...)},
		"pair at most": {ints("a", 0, 31), pair("b", 0, 0)},
		"long names":   {enum(long, long), enum(long[1:], long, long[1:])},
		"like a name":  {enum("a", "a", "b"), enum("b", "a", "b")},
		"by case":      {enum("a", "x", "X"), enum("A", "x")},
	} {
		if !Right(l) {
			t.Errorf("%s: not right", what)
		}
	}
	for what, l := range wrong() {
		if Right(l) {
			t.Errorf("%s: right", what)
		}
	}
}

// P2.1: what does not count may be anything.
func TestWhatDoesNotCount(t *testing.T) {
	bad := []string{"", "(", "("}
	l := []api.Colour{
		{Name: "a", Kind: api.CInt, Lo: -2, Hi: -1, Names: bad, First: -1, Then: 99},
		{Name: "b", Kind: api.CEnum, Names: []string{"x", "y", "z"}, Lo: 9, Hi: api.MinInt, First: 7, Then: -7},
		{Name: "c", Kind: api.CPair, First: 0, Then: 1, Lo: api.MaxInt, Hi: api.MinInt, Names: bad},
	}
	clean := []api.Colour{ints("a", -2, -1), enum("b", "x", "y", "z"), pair("c", 0, 1)}
	if !Right(l) {
		t.Fatal("not right")
	}
	for k := range l {
		for m := -1; m <= 6; m++ {
			x, is := Number(l, k, m)
			y, also := Number(clean, k, m)
			p, there := Member(l, k, m)
			q, too := Member(clean, k, m)
			if x != y || is != also || p != q || there != too || Text(l, k, m) != Text(clean, k, m) || Size(l, k) != Size(clean, k) {
				t.Errorf("colour %d, member %d", k, m)
			}
		}
	}
}

// P2.2
func TestSize(t *testing.T) {
	l := mixed()
	want := []int{3, 2, 6, 3, 3, 18, 18, 36, 2, 4, 1, 36, 36}
	for k, n := range want {
		if Size(l, k) != n {
			t.Errorf("colour %d: %d, not %d", k, Size(l, k), n)
		}
	}
	for _, k := range []int{api.MinInt, -1, len(l), len(l) + 1, api.MaxInt} {
		if Size(l, k) != 0 {
			t.Errorf("colour %d", k)
		}
	}
	most := []api.Colour{ints("a", 0, 31), pair("b", 0, 0), enum("c", names(api.MaxMembers)...), ints("d", api.MinInt, api.MinInt+1023)}
	for _, k := range []int{1, 2, 3} {
		if Size(most, k) != api.MaxMembers {
			t.Errorf("colour %d of the greatest: %d", k, Size(most, k))
		}
	}
	if Size(nil, 0) != 0 {
		t.Error("of none")
	}
}

// P2.2
func TestNumberAndMember(t *testing.T) {
	l := mixed()
	for k, c := range l {
		lo := 0
		if c.Kind == api.CInt {
			lo = c.Lo
		}
		for m := range Size(l, k) {
			if n, is := Number(l, k, m); n != lo+m || !is {
				t.Errorf("Number(%d, %d): %d, %v", k, m, n, is)
			}
			if back, is := Member(l, k, lo+m); back != m || !is {
				t.Errorf("Member(%d, %d): %d, %v", k, lo+m, back, is)
			}
		}
		for _, m := range []int{api.MinInt, -1, Size(l, k), Size(l, k) + 1, api.MaxInt} {
			if n, is := Number(l, k, m); n != 0 || is {
				t.Errorf("Number(%d, %d): %d, %v", k, m, n, is)
			}
		}
		for _, n := range []int{api.MinInt, api.MinInt + 3, lo - 1, lo + Size(l, k), api.MaxInt - 3, api.MaxInt} {
			in := n >= lo && n-lo < Size(l, k) && n-lo >= 0
			if m, is := Member(l, k, n); is != in || !in && m != 0 {
				t.Errorf("Member(%d, %d): %d, %v", k, n, m, is)
			}
		}
	}
	for _, k := range []int{api.MinInt, -1, len(l), api.MaxInt} {
		n, is := Number(l, k, 0)
		m, there := Member(l, k, 0)
		if n != 0 || is || m != 0 || there {
			t.Errorf("colour %d", k)
		}
	}
}

// P2.3
func TestPairAndParts(t *testing.T) {
	l := mixed()
	for k, c := range l {
		if c.Kind != api.CPair {
			continue
		}
		next := 0
		for a := range Size(l, c.First) {
			for b := range Size(l, c.Then) {
				// Rising b ahead of rising a gives the members one by one.
				if m, is := Pair(l, k, a, b); m != next || !is {
					t.Errorf("Pair(%d, %d, %d): %d, %v, not %d", k, a, b, m, is, next)
				}
				if x, y, is := Parts(l, k, next); x != a || y != b || !is {
					t.Errorf("Parts(%d, %d): %d, %d, %v", k, next, x, y, is)
				}
				next++
			}
		}
		first, then := Size(l, c.First), Size(l, c.Then)
		for _, ab := range [][2]int{{-1, 0}, {0, -1}, {first, 0}, {0, then}, {first, then}, {api.MinInt, 0}, {0, api.MaxInt}, {api.MaxInt, api.MaxInt}} {
			if m, is := Pair(l, k, ab[0], ab[1]); m != 0 || is {
				t.Errorf("Pair(%d, %v): %d, %v", k, ab, m, is)
			}
		}
		for _, m := range []int{api.MinInt, -1, Size(l, k), api.MaxInt} {
			if a, b, is := Parts(l, k, m); a != 0 || b != 0 || is {
				t.Errorf("Parts(%d, %d): %d, %d, %v", k, m, a, b, is)
			}
		}
	}
	for _, k := range []int{0, 1, 3, 10, -1, len(l), api.MinInt, api.MaxInt} {
		m, is := Pair(l, k, 0, 0)
		a, b, there := Parts(l, k, 0)
		if m != 0 || is || a != 0 || b != 0 || there {
			t.Errorf("colour %d is no pair", k)
		}
	}
	// First and Then of what is no pair do not make it one.
	odd := []api.Colour{ints("a", 0, 3), {Name: "b", Kind: api.CInt, Lo: 0, Hi: 3, First: 0, Then: 0}}
	if _, is := Pair(odd, 1, 0, 0); is {
		t.Error("a pair of kind CInt")
	}
	if _, _, is := Parts(odd, 1, 0); is {
		t.Error("parts of kind CInt")
	}
}

// P2.4
func TestText(t *testing.T) {
	l := mixed()
	for _, c := range []struct {
		k, m int
		want string
	}{
		{0, 0, "3"}, {0, 2, "5"}, {1, 0, "red"}, {1, 1, "blue"}, {2, 3, "(4,blue)"},
		{3, 0, "-9223372036854775808"}, {3, 2, "-9223372036854775806"}, {4, 2, "9223372036854775807"},
		{5, 0, "((3,red),-9223372036854775808)"}, {6, 17, "(9223372036854775807,(5,blue))"},
		{7, 9, "((3,blue),(4,blue))"}, {8, 0, "-1"}, {8, 1, "0"}, {9, 2, "(0,-1)"},
		{12, 9, "((only,((3,blue),(4,blue))),only)"},
		{0, 3, "?"}, {0, -1, "?"}, {1, 2, "?"}, {2, 6, "?"}, {2, -1, "?"}, {0, api.MinInt, "?"}, {2, api.MaxInt, "?"},
		{-1, 0, "?"}, {len(l), 0, "?"}, {api.MinInt, 0, "?"}, {api.MaxInt, 0, "?"},
	} {
		if s := Text(l, c.k, c.m); s != c.want {
			t.Errorf("Text(%d, %d): %q, not %q", c.k, c.m, s, c.want)
		}
	}
}

// P2.4: what differs from a text in a little is none.
func TestReadOfWhatIsNone(t *testing.T) {
	l := mixed()
	for _, c := range []struct {
		k int
		s string
	}{
		{0, ""}, {0, "2"}, {0, "6"}, {0, "+4"}, {0, "04"}, {0, " 4"}, {0, "4 "}, {0, "-4"}, {0, "4.0"}, {0, "0x4"}, {0, "4_"}, {0, "red"}, {0, "(4,red)"}, {0, "?"}, {0, "４"},
		{0, "18446744073709551620"}, {0, "-18446744073709551612"}, {0, strings.Repeat("4", 400)},
		{3, "9223372036854775808"}, {3, "-9223372036854775809"}, {3, "-9223372036854775805"}, {4, "9223372036854775808"}, {4, "-1"},
		{8, "-0"}, {8, "+0"}, {8, "00"}, {8, "-01"}, {8, "--1"}, {8, "-"},
		{1, ""}, {1, "Red"}, {1, "re"}, {1, "redd"}, {1, "red "}, {1, "0"}, {1, "green"}, {1, "?"},
		{2, ""}, {2, "("}, {2, ")"}, {2, "()"}, {2, "(,)"}, {2, "(4)"}, {2, "4,red"}, {2, "(4,red"}, {2, "4,red)"}, {2, "(4,red))"}, {2, "((4,red)"}, {2, "((4,red))"},
		{2, "(4, red)"}, {2, "( 4,red)"}, {2, "(4,red) "}, {2, " (4,red)"}, {2, "(red,4)"}, {2, "(4,red,red)"}, {2, "(4,,red)"}, {2, "(6,red)"}, {2, "(4,green)"}, {2, "[4,red]"}, {2, "(4;red)"}, {2, "(04,red)"},
		{2, "(,4,red)"}, {2, "(4,red,)"}, {2, "()4,red("}, {2, ")4,red("}, {2, "?"}, {2, ","}, {2, "(((((((("}, {2, "(4,\xff)"},
		{7, "((3,red),(4,blue)"}, {7, "(3,red),(4,blue)"}, {7, "((3,red)(4,blue))"}, {7, "((3,red,(4,blue)))"}, {7, "(3,red,4,blue)"}, {7, "((3,red),4)"},
		{-1, "3"}, {len(l), "3"}, {api.MinInt, "3"}, {api.MaxInt, "3"},
	} {
		if m, is := Read(l, c.k, c.s); m != 0 || is {
			t.Errorf("Read(%d, %q): %d, %v", c.k, c.s, m, is)
		}
	}
}

// P2.4: against the members' texts one by one, of texts that are spoilt a little.
func TestReadAgainstText(t *testing.T) {
	l := mixed()
	r := rand.New(rand.NewSource(2))
	const signs = "(),-0123rdbluonly "
	for range 30000 {
		k := r.Intn(len(l))
		s := []byte(Text(l, r.Intn(len(l)), 0))
		if r.Intn(2) == 0 {
			s = []byte(Text(l, k, r.Intn(Size(l, k))))
		}
		for range r.Intn(3) {
			i := r.Intn(len(s) + 1)
			switch c := signs[r.Intn(len(signs))]; {
			case i == len(s) || r.Intn(3) == 0:
				s = slices.Insert(s, i, c)
			case r.Intn(2) == 0:
				s[i] = c
			default:
				s = slices.Delete(s, i, i+1)
			}
		}
		want, there := 0, false
		for m := range Size(l, k) {
			if Text(l, k, m) == string(s) {
				want, there = m, true
			}
		}
		if m, is := Read(l, k, string(s)); m != want || is != there {
			t.Fatalf("Read(%d, %q): %d, %v, not %d, %v", k, s, m, is, want, there)
		}
	}
}

// P2.2, P2.3, P2.4: of colours that are not right nothing is told.
func TestOfWrongColours(t *testing.T) {
	for what, l := range wrong() {
		for k := -1; k <= len(l); k++ {
			n, a := Number(l, k, 0)
			m, b := Member(l, k, 0)
			p, c := Pair(l, k, 0, 0)
			x, y, d := Parts(l, k, 0)
			if Size(l, k) != 0 || n != 0 || m != 0 || p != 0 || x != 0 || y != 0 || a || b || c || d {
				t.Errorf("%s: colour %d", what, k)
			}
			if s := Text(l, k, 0); s != "?" {
				t.Errorf("%s: colour %d: %q", what, k, s)
			}
			for _, s := range []string{"0", "1", "x", "red", "(0,0)", "?", ""} {
				if m, is := Read(l, k, s); m != 0 || is {
					t.Errorf("%s: colour %d: %q", what, k, s)
				}
			}
		}
	}
}

// P2.5
func TestNothingIsChangedOrKept(t *testing.T) {
	build := func() []api.Colour {
		// Names that are not sorted, with spare room behind them.
		spare := append(make([]string, 0, 8), "z", "b", "m", "a")
		l := append(make([]api.Colour, 0, 6), ints("y", 0, 3), enum("b", spare...), pair("a", 0, 1))
		l[1].Names = spare
		return l
	}
	l, want := build(), build()
	for k := -1; k <= 3; k++ {
		Right(l)
		Size(l, k)
		for m := -1; m < 17; m++ {
			Number(l, k, m)
			Member(l, k, m)
			Text(l, k, m)
			Pair(l, k, m, m)
			Parts(l, k, m)
		}
		Read(l, k, "(2,m)")
	}
	if !reflect.DeepEqual(l, want) || !reflect.DeepEqual(l[:6], want[:6]) || !slices.Equal(l[1].Names[:8], want[1].Names[:8]) {
		t.Errorf("changed: %+v", l[:6])
	}
	before := Text(l, 2, 2)
	l[1].Names[2] = "other"
	l[0].Lo, l[0].Hi = 5, 5
	if before != "(0,m)" || Text(l, 2, 2) != "(5,other)" || Size(l, 2) != 4 || Size(l, 0) != 1 {
		t.Errorf("kept: %q, %q", before, Text(l, 2, 2))
	}
}

// randomColours is right colours from a seed, pairs as deep as they come.
func randomColours(r *rand.Rand) []api.Colour {
	var l []api.Colour
	for len(l) < 1+r.Intn(10) {
		name := fmt.Sprintf("k%d", len(l))
		var c api.Colour
		switch r.Intn(4) {
		case 0:
			lo := []int{api.MinInt, -2, 0, api.MaxInt - 3, r.Intn(100) - 50}[r.Intn(5)]
			c = ints(name, lo, lo+r.Intn(4))
		case 1:
			c = enum(name, names(1+r.Intn(4))...)
		default:
			c = pair(name, r.Intn(len(l)+1), r.Intn(len(l)+1))
		}
		if Right(append(slices.Clone(l), c)) {
			l = append(l, c)
		}
	}
	return l
}

// P2.6
func TestTurnedRound(t *testing.T) {
	r := rand.New(rand.NewSource(3))
	for range 300 {
		l := randomColours(r)
		for k, c := range l {
			seen := map[string]int{}
			for m := range Size(l, k) {
				s := Text(l, k, m)
				if other, twice := seen[s]; twice {
					t.Fatalf("%+v: members %d and %d are %q", l, other, m, s)
				}
				seen[s] = m
				if back, is := Read(l, k, s); back != m || !is {
					t.Fatalf("%+v: %q is read as %d, %v, not %d", l, s, back, is, m)
				}
				n, is := Number(l, k, m)
				if back, also := Member(l, k, n); back != m || !is || !also {
					t.Fatalf("%+v: %d counts as %d, back %d", l, m, n, back)
				}
				if c.Kind != api.CPair {
					continue
				}
				a, b, is := Parts(l, k, m)
				back, also := Pair(l, k, a, b)
				if back != m || !is || !also {
					t.Fatalf("%+v: parts of %d: %d, %d, back %d", l, m, a, b, back)
				}
				if want := "(" + Text(l, c.First, a) + "," + Text(l, c.Then, b) + ")"; s != want {
					t.Fatalf("%+v: %q, not %q", l, s, want)
				}
			}
		}
	}
}

// P2.6: a colour of one member doubles its text with each pair, and is read all the same.
func TestLongText(t *testing.T) {
	l := []api.Colour{enum("a0", "x")}
	for i := 1; i <= 16; i++ {
		l = append(l, pair(fmt.Sprintf("a%d", i), i-1, i-1))
	}
	s := Text(l, 16, 0)
	if want := 1<<16 + 3*(1<<16-1); len(s) != want {
		t.Errorf("%d bytes, not %d", len(s), want)
	}
	if m, is := Read(l, 16, s); m != 0 || !is {
		t.Errorf("%d, %v", m, is)
	}
	if _, is := Read(l, 16, s[:len(s)-3]+"y))"); is {
		t.Error("read, though spoilt")
	}
	if _, is := Read(l, 16, strings.Repeat("(", 1<<20)+strings.Repeat(")", 1<<20)); is {
		t.Error("read brackets alone")
	}
}
