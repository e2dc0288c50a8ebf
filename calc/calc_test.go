package calc

import (
	"math/big"
	"math/rand"
	"slices"
	"testing"

	"baldric/api"
)

// edges are the numbers at which a result stops being an int, and those around 0.
var edges = []int{
	api.MinInt, api.MinInt + 1, api.MinInt + 2, api.MinInt / 2, api.MinInt/2 - 1,
	-1 << 32, -1<<32 - 1, -3037000500, -3037000499, -1 << 31, -7, -3, -2, -1, 0, 1, 2, 3, 7,
	1 << 31, 3037000499, 3037000500, 1<<32 - 1, 1 << 32, 1<<32 + 1,
	api.MaxInt / 2, api.MaxInt/2 + 1, api.MaxInt - 2, api.MaxInt - 1, api.MaxInt,
}

var known = []int{api.Add, api.Sub, api.Mul, api.Div, api.Rem, api.Eq, api.Ne, api.Lt, api.Le, api.And, api.Or}

var unknown = []int{api.MinInt, -11, -1, 0, 12, 13, 1 << 32, 1<<32 + 1, api.MaxInt}

// eachPair hands over all pairs of edges, and others from a fixed seed, of all widths.
func eachPair(f func(a, b int)) {
	for _, a := range edges {
		for _, b := range edges {
			f(a, b)
		}
	}
	r := rand.New(rand.NewSource(1))
	for range 20000 {
		f(int(r.Uint64())>>r.Intn(64), int(r.Uint64())>>r.Intn(64))
	}
}

// reckoned is what Do must tell, reckoned with numbers that have no ends.
func reckoned(op, a, b int) (int, api.Errno) {
	x, y, n := big.NewInt(int64(a)), big.NewInt(int64(b)), new(big.Int)
	bit := func(is bool) (int, api.Errno) {
		if is {
			return 1, api.OK
		}
		return 0, api.OK
	}
	switch op {
	case api.Add:
		n.Add(x, y)
	case api.Sub:
		n.Sub(x, y)
	case api.Mul:
		n.Mul(x, y)
	case api.Div, api.Rem:
		if b == 0 {
			return 0, api.ErrZero
		}
		left := new(big.Int)
		n.QuoRem(x, y, left)
		if op == api.Rem && n.IsInt64() {
			n = left
		}
	case api.Eq:
		return bit(x.Cmp(y) == 0)
	case api.Ne:
		return bit(x.Cmp(y) != 0)
	case api.Lt:
		return bit(x.Cmp(y) < 0)
	case api.Le:
		return bit(x.Cmp(y) <= 0)
	case api.And:
		return bit(x.Sign() != 0 && y.Sign() != 0)
	case api.Or:
		return bit(x.Sign() != 0 || y.Sign() != 0)
	default:
		return 0, api.ErrArg
	}
	if !n.IsInt64() {
		return 0, api.ErrOver
	}
	return int(n.Int64()), api.OK
}

// P1.1
func TestKnown(t *testing.T) {
	for _, op := range known {
		if !Known(op) {
			t.Errorf("Known(%d): false", op)
		}
	}
	for _, op := range unknown {
		if Known(op) {
			t.Errorf("Known(%d): true", op)
		}
	}
}

// P1.1
func TestDoTable(t *testing.T) {
	const most, least = api.MaxInt, api.MinInt
	for _, x := range []struct {
		op, a, b, want int
		err            api.Errno
	}{
		{api.Add, 2, 3, 5, api.OK},
		{api.Add, most, 0, most, api.OK},
		{api.Add, most, 1, 0, api.ErrOver},
		{api.Add, most, least, -1, api.OK},
		{api.Add, least, 0, least, api.OK},
		{api.Add, least, -1, 0, api.ErrOver},
		{api.Add, least, least, 0, api.ErrOver},
		{api.Sub, 2, 3, -1, api.OK},
		{api.Sub, least, 1, 0, api.ErrOver},
		{api.Sub, most, -1, 0, api.ErrOver},
		{api.Sub, 0, least, 0, api.ErrOver},
		{api.Sub, -1, least, most, api.OK},
		{api.Sub, least, least, 0, api.OK},
		{api.Mul, -4, 5, -20, api.OK},
		{api.Mul, least, 0, 0, api.OK},
		{api.Mul, 0, least, 0, api.OK},
		{api.Mul, least, 1, least, api.OK},
		{api.Mul, least, -1, 0, api.ErrOver},
		{api.Mul, -1, least, 0, api.ErrOver},
		{api.Mul, most, -1, -most, api.OK},
		{api.Mul, most, 2, 0, api.ErrOver},
		{api.Mul, 1 << 32, 1 << 31, 0, api.ErrOver},
		{api.Mul, -1 << 32, 1 << 31, least, api.OK},
		{api.Mul, 1 << 32, 1 << 32, 0, api.ErrOver},
		{api.Div, 7, 2, 3, api.OK},
		{api.Div, -7, 2, -3, api.OK},
		{api.Div, 7, -2, -3, api.OK},
		{api.Div, -7, -2, 3, api.OK},
		{api.Div, 1, 0, 0, api.ErrZero},
		{api.Div, 0, 0, 0, api.ErrZero},
		{api.Div, least, 0, 0, api.ErrZero},
		{api.Div, least, -1, 0, api.ErrOver},
		{api.Div, least, 1, least, api.OK},
		{api.Rem, 7, 2, 1, api.OK},
		{api.Rem, -7, 2, -1, api.OK},
		{api.Rem, 7, -2, 1, api.OK},
		{api.Rem, -7, -2, -1, api.OK},
		{api.Rem, 1, 0, 0, api.ErrZero},
		{api.Rem, least, -1, 0, api.ErrOver},
		{api.Rem, least, most, -1, api.OK},
		{api.Eq, 4, 4, 1, api.OK},
		{api.Eq, least, most, 0, api.OK},
		{api.Ne, 4, 4, 0, api.OK},
		{api.Ne, least, most, 1, api.OK},
		{api.Lt, least, most, 1, api.OK},
		{api.Lt, 0, 0, 0, api.OK},
		{api.Lt, 1, 0, 0, api.OK},
		{api.Le, 0, 0, 1, api.OK},
		{api.Le, 1, 0, 0, api.OK},
		{api.And, 2, -3, 1, api.OK},
		{api.And, 2, 0, 0, api.OK},
		{api.And, 0, 0, 0, api.OK},
		{api.Or, 0, -3, 1, api.OK},
		{api.Or, 2, 3, 1, api.OK},
		{api.Or, 0, 0, 0, api.OK},
	} {
		if n, err := Do(x.op, x.a, x.b); n != x.want || err != x.err {
			t.Errorf("Do(%d, %d, %d): %d, %v; want %d, %v", x.op, x.a, x.b, n, err, x.want, x.err)
		}
	}
}

// P1.1
func TestDoAgainstNumbersWithoutEnds(t *testing.T) {
	eachPair(func(a, b int) {
		for _, op := range known {
			n, err := Do(op, a, b)
			if want, wantErr := reckoned(op, a, b); n != want || err != wantErr {
				t.Errorf("Do(%d, %d, %d): %d, %v; want %d, %v", op, a, b, n, err, want, wantErr)
			}
		}
	})
}

// P1.1: that an operation is not known is told ahead of what its numbers are.
func TestDoUnknown(t *testing.T) {
	for _, op := range unknown {
		for _, b := range []int{0, 1, -1} {
			if n, err := Do(op, api.MinInt, b); n != 0 || err != api.ErrArg {
				t.Errorf("Do(%d, MinInt, %d): %d, %v", op, b, n, err)
			}
		}
	}
}

// P1.2
func TestNeg(t *testing.T) {
	for _, x := range []struct {
		a, want int
		err     api.Errno
	}{{5, -5, api.OK}, {-5, 5, api.OK}, {0, 0, api.OK}, {api.MaxInt, -api.MaxInt, api.OK}, {-api.MaxInt, api.MaxInt, api.OK}, {api.MinInt, 0, api.ErrOver}} {
		if n, err := Neg(x.a); n != x.want || err != x.err {
			t.Errorf("Neg(%d): %d, %v; want %d, %v", x.a, n, err, x.want, x.err)
		}
	}
	for _, a := range edges {
		n, err := Neg(a)
		if want, wantErr := Do(api.Sub, 0, a); n != want || err != wantErr {
			t.Errorf("Neg(%d): %d, %v; Do of Sub tells %d, %v", a, n, err, want, wantErr)
		}
	}
}

// P1.3
func TestSignOpStrength(t *testing.T) {
	signs := []string{"+", "-", "*", "/", "%", "==", "!=", "<", "<=", "&&", "||"}
	strengths := []int{4, 4, 5, 5, 5, 3, 3, 3, 3, 2, 1}
	for i, op := range known {
		if s := Sign(op); s != signs[i] {
			t.Errorf("Sign(%d): %q; want %q", op, s, signs[i])
		}
		if k, is := Op(signs[i]); k != op || !is {
			t.Errorf("Op(%q): %d, %v; want %d", signs[i], k, is, op)
		}
		if n := Strength(op); n != strengths[i] {
			t.Errorf("Strength(%d): %d; want %d", op, n, strengths[i])
		}
	}
	for _, op := range unknown {
		if s, n := Sign(op), Strength(op); s != "?" || n != 0 {
			t.Errorf("of %d: %q, %d", op, s, n)
		}
	}
}

// P1.3
func TestOpOfNoSign(t *testing.T) {
	for _, s := range []string{"", "?", "=", "!", "&", "|", ">", ">=", "===", "<<", "++", " +", "+ ", "+\x00", "add", "\xff", "＋"} {
		if op, is := Op(s); op != 0 || is {
			t.Errorf("Op(%q): %d, %v", s, op, is)
		}
	}
}

// P1.4
func TestFold(t *testing.T) {
	for _, x := range []struct {
		op   int
		l    []int
		want int
		err  api.Errno
	}{
		{api.Sub, []int{9, 2, 3}, 4, api.OK},
		{api.Div, []int{100, 7, 2}, 7, api.OK},
		{api.Add, []int{1, 2, 3, 4}, 10, api.OK},
		{api.Lt, []int{5, 4, 1}, 1, api.OK},
		{api.And, []int{5}, 5, api.OK},
		{api.Div, []int{0}, 0, api.OK},
		{api.Mul, []int{api.MinInt}, api.MinInt, api.OK},
		{api.Add, []int{api.MaxInt, -1, 1}, api.MaxInt, api.OK},
		{api.Add, []int{api.MaxInt, 1, -1}, 0, api.ErrOver},
		{api.Mul, []int{api.MaxInt, 2, 0}, 0, api.ErrOver},
		{api.Div, []int{5, 0, 1}, 0, api.ErrZero},
		{api.Div, []int{api.MinInt, -1, 0}, 0, api.ErrOver},
		{api.Div, []int{api.MinInt, 0, -1}, 0, api.ErrZero},
		{api.Add, nil, 0, api.ErrArg},
		{api.Add, []int{}, 0, api.ErrArg},
		{0, nil, 0, api.ErrArg},
		{0, []int{5}, 0, api.ErrArg},
		{12, []int{5}, 0, api.ErrArg},
		{12, []int{5, 6}, 0, api.ErrArg},
		{-1, []int{5, 6, 7}, 0, api.ErrArg},
	} {
		if n, err := Fold(x.op, x.l...); n != x.want || err != x.err {
			t.Errorf("Fold(%d, %v): %d, %v; want %d, %v", x.op, x.l, n, err, x.want, x.err)
		}
	}
	if n, err := Fold(api.Add); n != 0 || err != api.ErrArg {
		t.Errorf("Fold of none: %d, %v", n, err)
	}
}

// P1.4
func TestFoldOfTwoIsDo(t *testing.T) {
	eachPair(func(a, b int) {
		for _, op := range known {
			n, err := Fold(op, a, b)
			if want, wantErr := Do(op, a, b); n != want || err != wantErr {
				t.Errorf("Fold(%d, %d, %d): %d, %v; want %d, %v", op, a, b, n, err, want, wantErr)
			}
		}
	})
}

// P1.5: the list stays as it was, with the room behind it, and a later call does not see it.
func TestFoldLeavesItsList(t *testing.T) {
	for _, op := range append(slices.Clone(known), unknown...) {
		whole := []int{7, api.MaxInt, -2, 0, 41, 42}
		before := slices.Clone(whole)
		for n := range 5 {
			Fold(op, whole[:n]...)
			if !slices.Equal(whole, before) {
				t.Fatalf("Fold of %d over %d changed %v to %v", op, n, before, whole)
			}
		}
	}
	l := []int{1, 2, 3}
	Fold(api.Add, l...)
	l[0], l[1], l[2] = 10, 20, 30
	if n, err := Fold(api.Add, l...); n != 60 || err != api.OK {
		t.Errorf("of the list as it is now: %d, %v", n, err)
	}
	if n, err := Fold(api.Add); n != 0 || err != api.ErrArg {
		t.Errorf("of none, after some: %d, %v", n, err)
	}
}

// back asks Do for what must be a number.
func back(t *testing.T, op, a, b int) int {
	t.Helper()
	n, err := Do(op, a, b)
	if err != api.OK {
		t.Errorf("Do(%d, %d, %d): %v", op, a, b, err)
	}
	return n
}

// P1.6
func TestExact(t *testing.T) {
	eachPair(func(a, b int) {
		if n, err := Do(api.Add, a, b); err == api.OK {
			if back(t, api.Sub, n, a) != b || back(t, api.Sub, n, b) != a {
				t.Errorf("%d + %d is not %d", a, b, n)
			}
		}
		if n, err := Do(api.Sub, a, b); err == api.OK && back(t, api.Add, n, b) != a {
			t.Errorf("%d - %d is not %d", a, b, n)
		}
		if n, err := Do(api.Mul, a, b); err == api.OK && b != 0 && (back(t, api.Div, n, b) != a || back(t, api.Rem, n, b) != 0) {
			t.Errorf("%d * %d is not %d", a, b, n)
		}
		n, err := Do(api.Div, a, b)
		left, leftErr := Do(api.Rem, a, b)
		if err != leftErr {
			t.Errorf("of %d by %d: %v, %v", a, b, err, leftErr)
		}
		if err == api.OK && back(t, api.Add, back(t, api.Mul, n, b), left) != a {
			t.Errorf("%d by %d is not %d and %d", a, b, n, left)
		}
	})
}

// P1.7
func TestTurnedRound(t *testing.T) {
	eachPair(func(a, b int) {
		for _, op := range []int{api.Add, api.Mul, api.Eq, api.Ne, api.And, api.Or} {
			n, err := Do(op, a, b)
			if m, other := Do(op, b, a); n != m || err != other {
				t.Errorf("Do(%d, %d, %d): %d, %v; turned round %d, %v", op, a, b, n, err, m, other)
			}
		}
	})
}
