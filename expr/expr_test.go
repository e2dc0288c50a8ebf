package expr

import (
	"fmt"
	"math/big"
	"math/rand"
	"slices"
	"strconv"
	"strings"
	"testing"

	"baldric/api"
)

func of(kind, num int, kids ...api.Expr) api.Expr {
	return api.Expr{Kind: kind, Num: num, Kids: kids}
}

func num(n int) api.Expr                 { return of(api.ENum, n) }
func vary(k int) api.Expr                { return of(api.EVar, k) }
func neg(a api.Expr) api.Expr            { return of(api.ENeg, 0, a) }
func not(a api.Expr) api.Expr            { return of(api.ENot, 0, a) }
func bin(op int, a, b api.Expr) api.Expr { return of(api.EBin, op, a, b) }
func pick(a, b, c api.Expr) api.Expr     { return of(api.EIf, 0, a, b, c) }

// zero and over are expressions that tell ErrZero and ErrOver.
func zero() api.Expr { return bin(api.Div, num(1), num(0)) }
func over() api.Expr { return bin(api.Add, num(api.MaxInt), num(1)) }

// unknown is kinds that are none.
func unknown() []int { return []int{api.MinInt, -1, 0, 7, 8, 1<<32 + 1, api.MaxInt} }

// odd is expressions that are not right, beside two variables.
func odd() map[string]api.Expr {
	x := vary(0)
	l := map[string]api.Expr{
		"nothing":                {},
		"a number with a kid":    of(api.ENum, 4, x),
		"a variable with a kid":  of(api.EVar, 0, x),
		"no such variable":       vary(2),
		"a variable below 0":     vary(-1),
		"the least variable":     vary(api.MinInt),
		"the greatest variable":  vary(api.MaxInt),
		"ENeg of none":           of(api.ENeg, 0),
		"ENeg of two":            of(api.ENeg, 0, x, x),
		"ENot of none":           of(api.ENot, 0),
		"ENot of two":            of(api.ENot, 0, x, x),
		"EBin of none":           of(api.EBin, api.Add),
		"EBin of one":            of(api.EBin, api.Add, x),
		"EBin of three":          of(api.EBin, api.Add, x, x, x),
		"no operation":           bin(0, x, x),
		"an operation past":      bin(api.Or+1, x, x),
		"an operation below 0":   bin(-1, x, x),
		"EIf of none":            of(api.EIf, 0),
		"EIf of two":             of(api.EIf, 0, x, x),
		"EIf of four":            of(api.EIf, 0, x, x, x, x),
		"one deeper than may be": chain(api.ENeg, 0, 1, api.MaxDeep+1),
		"one more than may be":   sized(api.MaxSize + 1),
	}
	for _, kind := range unknown() {
		for kids := range 4 {
			l[fmt.Sprintf("kind %d of %d", kind, kids)] = of(kind, 0, times(x, kids)...)
		}
	}
	return l
}

// times is e so often.
func times(e api.Expr, n int) []api.Expr {
	var l []api.Expr
	for range n {
		l = append(l, Copy(e))
	}
	return l
}

// chain is so deep: parts of a kind, each the kid at of the next one, beside numbers.
func chain(kind, at, kids, deep int) api.Expr {
	e := num(1)
	for range deep - 1 {
		l := times(num(1), kids)
		l[at] = e
		e = of(kind, api.Add, l...)
	}
	return e
}

// sized is an expression of so many parts that is not deep.
func sized(n int) api.Expr {
	switch {
	case n == 1:
		return num(1)
	case n == 2:
		return neg(num(1))
	}
	half := (n - 1) / 2
	return bin(api.Add, sized(half), sized(n-1-half))
}

// some is a right expression beside so many variables, of at most so many parts within one another.
func some(r *rand.Rand, vars, deep int) api.Expr {
	kind := api.ENeg + r.Intn(4)
	if deep == 1 || r.Intn(5) == 0 {
		kind = api.ENum + r.Intn(2)
	}
	if kind == api.EVar && vars == 0 {
		kind = api.ENum
	}
	less := func() api.Expr { return some(r, vars, deep-1) }
	switch kind {
	case api.ENum:
		l := []int{0, 0, 1, 2, 3, 7, -1, -5, api.MaxInt, api.MinInt, api.MinInt + 1, 1 << 32}
		return num(l[r.Intn(len(l))])
	case api.EVar:
		return vary(r.Intn(vars))
	case api.ENeg:
		return of(api.ENeg, r.Intn(20), less())
	case api.ENot:
		return of(api.ENot, r.Intn(20), less())
	case api.EBin:
		return bin(1+r.Intn(api.Or), less(), less())
	}
	return of(api.EIf, r.Intn(20), less(), less(), less())
}

// loose is an expression of which nothing is sure.
func loose(r *rand.Rand, deep int) api.Expr {
	e := api.Expr{Kind: r.Intn(9) - 1, Num: r.Intn(14) - 2}
	if deep > 1 {
		for range r.Intn(5) {
			e.Kids = append(e.Kids, loose(r, deep-1))
		}
	}
	return e
}

// parts is all parts of e, with how deep they stand, looked at row by row.
func parts(e api.Expr) ([]api.Expr, int) {
	var l []api.Expr
	deep := 0
	for row := []api.Expr{e}; len(row) > 0; deep++ {
		var next []api.Expr
		for _, p := range row {
			next = append(next, p.Kids...)
		}
		l = append(l, row...)
		row = next
	}
	return l, deep
}

// spots is where the parts of e stand, so that they can be changed.
func spots(e *api.Expr) []*api.Expr {
	l := []*api.Expr{e}
	for i := range e.Kids {
		l = append(l, spots(&e.Kids[i])...)
	}
	return l
}

// alike holds two expressions against each other by their whole texts.
func alike(a, b api.Expr) bool { return shown(a) == shown(b) }

// shown is all there is in e.
func shown(e api.Expr) string { return string(showing(nil, e)) }

func showing(out []byte, e api.Expr) []byte {
	out = append(out, '{')
	out = strconv.AppendInt(out, int64(e.Kind), 10)
	out = append(out, ' ')
	out = strconv.AppendInt(out, int64(e.Num), 10)
	for _, kid := range e.Kids {
		out = showing(out, kid)
	}
	return append(out, '}')
}

// P4.1
func TestDepthAndSize(t *testing.T) {
	x := vary(0)
	for _, c := range []struct {
		e          api.Expr
		deep, size int
	}{
		{api.Expr{}, 1, 1},
		{api.Expr{Kids: []api.Expr{}}, 1, 1},
		{num(7), 1, 1},
		{x, 1, 1},
		{neg(x), 2, 2},
		{bin(api.Add, x, num(2)), 2, 3},
		{bin(api.Add, neg(not(x)), num(2)), 4, 5},
		{bin(api.Add, num(2), neg(not(x))), 4, 5},
		{pick(x, neg(x), x), 3, 5},
		{of(99, -4, x, x, neg(x), x), 3, 6},
		{of(api.ENum, 0, x), 2, 2},
	} {
		if d := Depth(c.e); d != c.deep {
			t.Errorf("Depth of %s: %d", shown(c.e), d)
		}
		if n := Size(c.e); n != c.size {
			t.Errorf("Size of %s: %d", shown(c.e), n)
		}
	}
	r := rand.New(rand.NewSource(1))
	for range 2000 {
		e := loose(r, 6)
		l, deep := parts(e)
		if Depth(e) != deep || Size(e) != len(l) {
			t.Fatalf("%s: Depth %d, Size %d", shown(e), Depth(e), Size(e))
		}
	}
}

// P4.1: too few and too many kids of each kind, and kinds that are none.
func TestRightKids(t *testing.T) {
	want := map[int]int{api.ENum: 0, api.EVar: 0, api.ENeg: 1, api.ENot: 1, api.EBin: 2, api.EIf: 3}
	for kind, n := range want {
		for kids := range 7 {
			e := of(kind, 1, times(num(1), kids)...)
			if Right(e, 2) != (kids == n) {
				t.Errorf("kind %d of %d kids: %v", kind, kids, kids != n)
			}
		}
		e := of(kind, 1, times(num(1), n)...)
		if n == 0 {
			e.Kids = []api.Expr{}
		}
		if !Right(e, 2) {
			t.Errorf("kind %d: not right", kind)
		}
	}
	for _, kind := range unknown() {
		for kids := range 5 {
			if Right(of(kind, 1, times(num(1), kids)...), 2) {
				t.Errorf("kind %d of %d kids: right", kind, kids)
			}
		}
	}
}

// P4.1
func TestRightVariables(t *testing.T) {
	for _, vars := range []int{api.MinInt, api.MinInt + 1, -1, 0, 1, 2, api.MaxVars, api.MaxVars + 1, 100, api.MaxInt} {
		for _, k := range []int{api.MinInt, -2, -1, 0, 1, 2, api.MaxVars - 1, api.MaxVars, api.MaxVars + 1, 99, 100, api.MaxInt - 1, api.MaxInt} {
			want := k >= 0 && k < vars
			for _, e := range []api.Expr{vary(k), neg(vary(k)), bin(api.Add, num(1), vary(k)), pick(num(1), num(1), vary(k))} {
				if Right(e, vars) != want {
					t.Errorf("%s beside %d: %v", shown(e), vars, !want)
				}
			}
		}
		if !Right(bin(api.Add, num(-9), num(9)), vars) {
			t.Errorf("an expression without variables beside %d: not right", vars)
		}
	}
}

// P4.1: which Nums may be.
func TestRightNumbers(t *testing.T) {
	for _, n := range []int{api.MinInt, -1, 0, 1, 2, 5, 10, 11, 12, 13, 1<<32 + 1, api.MaxInt} {
		x := vary(0)
		if !Right(num(n), 0) || !Right(of(api.ENeg, n, x), 1) || !Right(of(api.ENot, n, x), 1) || !Right(of(api.EIf, n, x, x, x), 1) {
			t.Errorf("Num %d of a kind that takes any: not right", n)
		}
		if Right(bin(n, x, x), 1) != (n >= 1 && n <= 11) {
			t.Errorf("EBin of the operation %d", n)
		}
	}
}

// P4.1
func TestRightSize(t *testing.T) {
	for n := api.MaxSize - 4; n <= api.MaxSize+4; n++ {
		e := sized(n)
		if Size(e) != n || Depth(e) > api.MaxDeep {
			t.Fatalf("Size %d, Depth %d", Size(e), Depth(e))
		}
		if Right(e, 0) != (n <= api.MaxSize) {
			t.Errorf("Size %d: Right %v", n, n > api.MaxSize)
		}
	}
	for _, n := range []int{1, 2, 3, 100, 2 * api.MaxSize, 10000} {
		if Right(sized(n), 0) != (n <= api.MaxSize) {
			t.Errorf("Size %d: Right %v", n, n > api.MaxSize)
		}
	}
}

// P4.1
func TestRightDepth(t *testing.T) {
	for kind, kids := range map[int]int{api.ENeg: 1, api.ENot: 1, api.EBin: 2, api.EIf: 3} {
		for at := range kids {
			for deep := 1; deep <= api.MaxDeep+3; deep++ {
				e := chain(kind, at, kids, deep)
				if Depth(e) != deep {
					t.Fatalf("Depth %d", Depth(e))
				}
				if Right(e, 0) != (deep <= api.MaxDeep) {
					t.Errorf("kind %d, kid %d, Depth %d: Right %v", kind, at, deep, deep > api.MaxDeep)
				}
			}
		}
	}
}

// P4.1: at the most of both.
func TestRightDeepAndGreat(t *testing.T) {
	e := bin(api.Add, chain(api.ENeg, 0, 1, api.MaxDeep-1), sized(api.MaxSize-api.MaxDeep))
	if Size(e) != api.MaxSize || Depth(e) != api.MaxDeep || !Right(e, 0) {
		t.Errorf("Size %d, Depth %d: Right %v", Size(e), Depth(e), Right(e, 0))
	}
	e.Kids[1] = sized(api.MaxSize - api.MaxDeep + 1)
	if Right(e, 0) {
		t.Errorf("Size %d, Depth %d: right", Size(e), Depth(e))
	}
}

// P4.1: what is wrong anywhere within is not right.
func TestRightWithin(t *testing.T) {
	r := rand.New(rand.NewSource(4))
	for range 300 {
		e := some(r, 2, 5)
		if !Right(e, 2) {
			t.Fatalf("%s: not right", shown(e))
		}
		for why, o := range odd() {
			whole := Copy(e)
			l := spots(&whole)
			*l[r.Intn(len(l))] = o
			if Right(whole, 2) {
				t.Fatalf("%s: right, but has %s", shown(whole), why)
			}
			if n, err := Eval(whole, []int{5, 3}); n != 0 || err != api.ErrArg {
				t.Fatalf("Eval of what has %s: %d, %v", why, n, err)
			}
		}
	}
}

// W1: what has far too many parts, since they share their kids or have themselves as kids, is told as not right all the same.
func TestRightEnds(t *testing.T) {
	e := vary(0)
	for range api.MaxDeep - 1 {
		e = bin(api.Add, e, e)
	}
	self := []api.Expr{num(1), num(1)}
	self[0] = api.Expr{Kind: api.EBin, Num: api.Add, Kids: self}
	for _, e := range []api.Expr{e, self[0], of(api.ENum, 1, make([]api.Expr, 1<<16)...)} {
		if Right(e, 1) {
			t.Error("right")
		}
		if n, err := Eval(e, []int{1}); n != 0 || err != api.ErrArg {
			t.Errorf("%d, %v", n, err)
		}
	}
}

// P4.2
func TestEval(t *testing.T) {
	x, y := vary(0), vary(1)
	for _, c := range []struct {
		e    api.Expr
		want int
		err  api.Errno
	}{
		{num(7), 7, 0},
		{num(api.MinInt), api.MinInt, 0},
		{num(api.MaxInt), api.MaxInt, 0},
		{x, 5, 0},
		{y, -3, 0},
		{neg(x), -5, 0},
		{neg(y), 3, 0},
		{neg(num(api.MaxInt)), api.MinInt + 1, 0},
		{neg(num(api.MinInt)), 0, api.ErrOver},
		{neg(zero()), 0, api.ErrZero},
		{of(api.ENeg, 9, x), -5, 0},
		{not(num(0)), 1, 0},
		{not(x), 0, 0},
		{not(y), 0, 0},
		{not(num(api.MinInt)), 0, 0},
		{not(zero()), 0, api.ErrZero},
		{not(over()), 0, api.ErrOver},
		{of(api.ENot, -9, num(0)), 1, 0},
		{bin(api.Add, x, y), 2, 0},
		{bin(api.Sub, x, y), 8, 0},
		{bin(api.Sub, y, x), -8, 0},
		{bin(api.Mul, x, y), -15, 0},
		{bin(api.Div, num(-7), num(2)), -3, 0},
		{bin(api.Rem, num(-7), num(2)), -1, 0},
		{bin(api.Rem, x, num(0)), 0, api.ErrZero},
		{bin(api.Div, num(api.MinInt), num(-1)), 0, api.ErrOver},
		{bin(api.Eq, x, num(5)), 1, 0},
		{bin(api.Ne, x, num(5)), 0, 0},
		{bin(api.Lt, y, x), 1, 0},
		{bin(api.Lt, x, y), 0, 0},
		{bin(api.Le, x, x), 1, 0},
		{bin(api.And, x, y), 1, 0},
		{bin(api.And, x, num(0)), 0, 0},
		{bin(api.Or, num(0), y), 1, 0},
		{bin(api.Or, num(0), num(0)), 0, 0},
		{pick(x, num(8), num(9)), 8, 0},
		{pick(y, num(8), num(9)), 8, 0},
		{pick(num(0), num(8), num(9)), 9, 0},
		{of(api.EIf, 77, num(0), num(8), num(9)), 9, 0},
		{pick(bin(api.Eq, x, num(0)), bin(api.Div, num(1), x), bin(api.Sub, x, num(7))), -2, 0},
	} {
		if n, err := Eval(c.e, []int{5, -3}); n != c.want || err != c.err {
			t.Errorf("%s: %d, %v", Text(c.e, []string{"x", "y"}), n, err)
		}
	}
}

// P4.2: which error is the first, and what is not looked at.
func TestEvalErrors(t *testing.T) {
	for _, c := range []struct {
		e    api.Expr
		want int
		err  api.Errno
	}{
		{bin(api.And, num(0), zero()), 0, 0},
		{bin(api.And, num(2), zero()), 0, api.ErrZero},
		{bin(api.And, num(-2), over()), 0, api.ErrOver},
		{bin(api.And, zero(), over()), 0, api.ErrZero},
		{bin(api.And, zero(), num(0)), 0, api.ErrZero},
		{bin(api.Or, num(3), zero()), 1, 0},
		{bin(api.Or, num(-3), over()), 1, 0},
		{bin(api.Or, num(0), zero()), 0, api.ErrZero},
		{bin(api.Or, over(), zero()), 0, api.ErrOver},
		{bin(api.Or, over(), num(1)), 0, api.ErrOver},
		{pick(num(1), num(4), zero()), 4, 0},
		{pick(num(-1), num(4), zero()), 4, 0},
		{pick(num(0), zero(), num(4)), 4, 0},
		{pick(num(1), zero(), over()), 0, api.ErrZero},
		{pick(num(0), zero(), over()), 0, api.ErrOver},
		{pick(zero(), num(1), num(2)), 0, api.ErrZero},
		{pick(over(), zero(), zero()), 0, api.ErrOver},
		{not(bin(api.And, num(0), zero())), 1, 0},
		{neg(bin(api.Or, num(9), zero())), -1, 0},
	} {
		if n, err := Eval(c.e, nil); n != c.want || err != c.err {
			t.Errorf("%s: %d, %v", Text(c.e, nil), n, err)
		}
	}
	for op := api.Add; op < api.And; op++ {
		for _, c := range []struct {
			a, b api.Expr
			err  api.Errno
		}{
			{zero(), over(), api.ErrZero}, {over(), zero(), api.ErrOver}, {num(0), zero(), api.ErrZero}, {num(1), over(), api.ErrOver}, {zero(), num(0), api.ErrZero}, {over(), num(0), api.ErrOver},
		} {
			if n, err := Eval(bin(op, c.a, c.b), nil); n != 0 || err != c.err {
				t.Errorf("%s: %d, %v", Text(bin(op, c.a, c.b), nil), n, err)
			}
		}
	}
}

// P4.2: what is not right is told as such, even where it would not be looked at.
func TestEvalNotRight(t *testing.T) {
	for why, o := range odd() {
		for _, e := range []api.Expr{o, bin(api.And, num(0), o), bin(api.Or, num(1), o), pick(num(1), num(1), o), pick(num(0), o, num(1)), bin(api.Add, zero(), o)} {
			if n, err := Eval(e, []int{5, 3}); n != 0 || err != api.ErrArg {
				t.Errorf("%s: %d, %v", why, n, err)
			}
		}
	}
	e := bin(api.Add, vary(0), vary(2))
	for vars := range 6 {
		n, err := Eval(e, []int{10, 20, 30, 40, 50, 60}[:vars])
		if vars < 3 && (n != 0 || err != api.ErrArg) || vars >= 3 && (n != 40 || err != api.OK) {
			t.Errorf("beside %d: %d, %v", vars, n, err)
		}
	}
	many := make([]int, 5*api.MaxVars)
	many[5*api.MaxVars-1] = 8
	if n, err := Eval(vary(5*api.MaxVars-1), many); n != 8 || err != api.OK {
		t.Errorf("the last of many: %d, %v", n, err)
	}
	if n, err := Eval(num(3), []int{}); n != 3 || err != api.OK {
		t.Errorf("beside none: %d, %v", n, err)
	}
}

// P4.2: at the most that is right.
func TestEvalAtTheMost(t *testing.T) {
	e := chain(api.EBin, 0, 2, api.MaxDeep)
	if n, err := Eval(e, nil); n != api.MaxDeep || err != api.OK {
		t.Errorf("the deepest: %d, %v", n, err)
	}
	e = chain(api.EBin, 1, 2, api.MaxDeep)
	if n, err := Eval(e, nil); n != api.MaxDeep || err != api.OK {
		t.Errorf("the deepest on the other side: %d, %v", n, err)
	}
	if n, err := Eval(chain(api.ENeg, 0, 1, api.MaxDeep), nil); n != -1 || err != api.OK {
		t.Errorf("negated often: %d, %v", n, err)
	}
	if _, err := Eval(sized(api.MaxSize), nil); err != api.OK {
		t.Errorf("the greatest: %v", err)
	}
}

// fitting is n as an int, if it is one.
func fitting(n *big.Int) (int, api.Errno) {
	if !n.IsInt64() {
		return 0, api.ErrOver
	}
	return int(n.Int64()), api.OK
}

// exact is the operation of a and b by numbers without an end.
func exact(op, a, b int) (int, api.Errno) {
	x, y := big.NewInt(int64(a)), big.NewInt(int64(b))
	is := func(yes bool) (int, api.Errno) {
		if yes {
			return 1, api.OK
		}
		return 0, api.OK
	}
	switch op {
	case api.Add:
		return fitting(x.Add(x, y))
	case api.Sub:
		return fitting(x.Sub(x, y))
	case api.Mul:
		return fitting(x.Mul(x, y))
	case api.Div, api.Rem:
		if b == 0 {
			return 0, api.ErrZero
		}
		rest := new(big.Int)
		x.QuoRem(x, y, rest)
		if n, err := fitting(x); op == api.Div || err != api.OK {
			return n, err
		}
		return fitting(rest)
	case api.Eq:
		return is(a == b)
	case api.Ne:
		return is(a != b)
	case api.Lt:
		return is(a < b)
	case api.Le:
		return is(a <= b)
	case api.And:
		return is(a != 0 && b != 0)
	}
	return is(a != 0 || b != 0)
}

// reckoned is what a right expression comes to, all kids first, and then which of them count.
func reckoned(e api.Expr, env []int) (int, api.Errno) {
	n, errs := make([]int, len(e.Kids)), make([]api.Errno, len(e.Kids))
	for i, kid := range e.Kids {
		n[i], errs[i] = reckoned(kid, env)
	}
	if len(e.Kids) > 0 && errs[0] != api.OK {
		return 0, errs[0]
	}
	switch e.Kind {
	case api.ENum:
		return e.Num, api.OK
	case api.EVar:
		return env[e.Num], api.OK
	case api.ENeg:
		return exact(api.Sub, 0, n[0])
	case api.ENot:
		return exact(api.Eq, n[0], 0)
	case api.EIf:
		if n[0] != 0 {
			return n[1], errs[1]
		}
		return n[2], errs[2]
	}
	aside := e.Num == api.And && n[0] == 0 || e.Num == api.Or && n[0] != 0
	if !aside && errs[1] != api.OK {
		return 0, errs[1]
	}
	return exact(e.Num, n[0], n[1])
}

// P4.2
func TestEvalExact(t *testing.T) {
	r := rand.New(rand.NewSource(2))
	told := map[api.Errno]int{}
	for range 20000 {
		env := []int{r.Intn(9) - 4, r.Intn(3) - 1, r.Int() - r.Int(), api.MinInt}
		e := some(r, len(env), 1+r.Intn(7))
		if r.Intn(2) == 0 {
			e = bin(1+r.Intn(api.Or), e, some(r, len(env), 3))
		}
		n, err := Eval(e, env)
		if want, why := reckoned(e, env); n != want || err != why {
			t.Fatalf("%s beside %v: %d, %v, not %d, %v", Text(e, nil), env, n, err, want, why)
		}
		told[err]++
	}
	if told[api.OK] < 1000 || told[api.ErrOver] < 500 || told[api.ErrZero] < 500 || len(told) != 3 {
		t.Errorf("told %v", told)
	}
}

// P4.3
func TestText(t *testing.T) {
	x, y := vary(0), vary(1)
	sum := bin(api.Add, x, y)
	for _, c := range []struct {
		e    api.Expr
		want string
	}{
		{num(0), "0"},
		{num(42), "42"},
		{num(-1), "(-1)"},
		{num(api.MaxInt), "9223372036854775807"},
		{num(api.MinInt), "(-9223372036854775808)"},
		{x, "x"},
		{y, "long_name"},
		{vary(2), ""},
		{vary(3), "?"},
		{vary(-1), "?"},
		{vary(api.MaxInt), "?"},
		{vary(api.MinInt), "?"},
		{neg(x), "-x"},
		{neg(num(4)), "-4"},
		{neg(num(-4)), "-(-4)"},
		{neg(neg(x)), "--x"},
		{neg(not(x)), "-!x"},
		{not(not(neg(x))), "!!-x"},
		{not(num(-4)), "!(-4)"},
		{neg(sum), "-(x + long_name)"},
		{not(sum), "!(x + long_name)"},
		{neg(bin(api.Mul, x, x)), "-(x * x)"},
		{not(bin(api.Or, x, x)), "!(x || x)"},
		{neg(pick(x, x, x)), "-if(x, x, x)"},
		{not(pick(x, x, x)), "!if(x, x, x)"},
		{bin(api.Add, neg(x), not(x)), "-x + !x"},
		{bin(api.Sub, x, neg(x)), "x - -x"},
		{bin(api.Sub, x, num(-1)), "x - (-1)"},
		{bin(api.Mul, num(-1), x), "(-1) * x"},
		{bin(api.Mul, neg(sum), x), "-(x + long_name) * x"},
		{bin(api.Mul, pick(x, x, x), pick(x, x, x)), "if(x, x, x) * if(x, x, x)"},
		{pick(sum, bin(api.Or, x, x), neg(sum)), "if(x + long_name, x || x, -(x + long_name))"},
		{pick(pick(x, x, x), num(-1), num(2)), "if(if(x, x, x), (-1), 2)"},
		{bin(api.And, bin(api.Le, x, num(1)), bin(api.Ne, x, num(2))), "x <= 1 && x != 2"},
	} {
		if s := Text(c.e, []string{"x", "long_name", ""}); s != c.want {
			t.Errorf("%s: %q, not %q", shown(c.e), s, c.want)
		}
	}
	for _, names := range [][]string{nil, {}} {
		if s := Text(sum, names); s != "? + ?" {
			t.Errorf("without names: %q", s)
		}
	}
}

// strengths are the operations by how they bind, held here once more, so that no two wrongs agree.
func strengths() map[int]int {
	return map[int]int{api.Mul: 5, api.Div: 5, api.Rem: 5, api.Add: 4, api.Sub: 4, api.Eq: 3, api.Ne: 3, api.Lt: 3, api.Le: 3, api.And: 2, api.Or: 1}
}

// P4.3: kids of EBin that bind less, as much and more, on either side.
func TestTextBrackets(t *testing.T) {
	signs := []string{"?", "+", "-", "*", "/", "%", "==", "!=", "<", "<=", "&&", "||", "?"}
	x := vary(0)
	for op, sign := range signs {
		for inner, other := range signs {
			kid := "x " + other + " x"
			first, then := kid, kid
			if strengths()[inner] < strengths()[op] {
				first = "(" + kid + ")"
			}
			if strengths()[inner] <= strengths()[op] {
				then = "(" + kid + ")"
			}
			k := bin(inner, x, x)
			for e, want := range map[*api.Expr]string{
				{Kind: api.EBin, Num: op, Kids: []api.Expr{k, x}}: first + " " + sign + " x",
				{Kind: api.EBin, Num: op, Kids: []api.Expr{x, k}}: "x " + sign + " " + then,
				{Kind: api.EBin, Num: op, Kids: []api.Expr{k, k}}: first + " " + sign + " " + then,
			} {
				if s := Text(*e, []string{"x"}); s != want {
					t.Errorf("%q, not %q", s, want)
				}
			}
		}
	}
}

// P4.3: missing kids, kids that are too many, and what is no expression.
func TestTextOfAny(t *testing.T) {
	x, y := vary(0), vary(1)
	sum := bin(api.Add, x, y)
	for _, c := range []struct {
		e    api.Expr
		want string
	}{
		{api.Expr{}, "?"},
		{of(api.ENum, 4, x), "4"},
		{of(api.ENum, -4, x, x), "(-4)"},
		{of(api.EVar, 1, x), "y"},
		{of(api.EVar, 7, x), "?"},
		{of(api.ENeg, 0), "-?"},
		{of(api.ENeg, 0, x, y), "-x"},
		{of(api.ENeg, 0, sum, y), "-(x + y)"},
		{of(api.ENot, 0), "!?"},
		{of(api.ENot, 0, x, sum), "!x"},
		{of(api.EBin, api.Add), "? + ?"},
		{of(api.EBin, api.Add, x), "x + ?"},
		{of(api.EBin, api.Add, x, y, x), "x + y"},
		{of(api.EBin, 0, x, y), "x ? y"},
		{of(api.EBin, 12, x), "x ? ?"},
		{of(api.EBin, 12), "? ? ?"},
		{of(api.EBin, api.Or, of(api.EBin, 12, x, y), x), "(x ? y) || x"},
		{of(api.EBin, 12, sum, sum), "x + y ? x + y"},
		{of(api.EBin, 12, of(api.EBin, 13), of(api.EBin, 14)), "? ? ? ? (? ? ?)"},
		{of(api.EBin, api.Mul, of(api.EBin, api.Add), of(api.EBin, api.Mul, x)), "(? + ?) * (x * ?)"},
		{neg(of(api.EBin, api.Mul)), "-(? * ?)"},
		{of(api.EIf, 0), "if(?, ?, ?)"},
		{of(api.EIf, 0, x), "if(x, ?, ?)"},
		{of(api.EIf, 0, x, y), "if(x, y, ?)"},
		{of(api.EIf, 0, x, y, sum, x, x), "if(x, y, x + y)"},
		{neg(api.Expr{}), "-?"},
		{not(of(7, 1, x, y)), "!?"},
		{bin(api.Mul, of(7, api.Add, x, y), of(0, api.Add, x, y)), "? * ?"},
		{pick(of(-1, 0), of(7, 0), of(api.MaxInt, 0)), "if(?, ?, ?)"},
	} {
		if s := Text(c.e, []string{"x", "y"}); s != c.want {
			t.Errorf("%s: %q, not %q", shown(c.e), s, c.want)
		}
	}
	for _, kind := range unknown() {
		for kids := range 4 {
			if s := Text(of(kind, api.Add, times(x, kids)...), []string{"x", "y"}); s != "?" {
				t.Errorf("kind %d: %q", kind, s)
			}
		}
	}
}

// reader reads texts back by their brackets and by how operations bind.
type reader struct {
	left []string
}

// pieces is the pieces of a text, of names of one letter, numbers and signs.
func pieces(s string) []string {
	for _, sign := range []string{"(", ")", ",", "!"} {
		s = strings.ReplaceAll(s, sign, " "+sign+" ")
	}
	s = strings.ReplaceAll(s, "! =", "!=")
	// A minus that has no blank behind it stands ahead of its kid.
	for _, c := range "xyz0123456789-(!i" {
		s = strings.ReplaceAll(s, "-"+string(c), " - "+string(c))
		s = strings.ReplaceAll(s, "-"+string(c), " - "+string(c))
	}
	return strings.Fields(s)
}

func (r *reader) take() string {
	p := r.left[0]
	r.left = r.left[1:]
	return p
}

func (r *reader) expr(least int) api.Expr {
	e := r.unary()
	for len(r.left) > 0 {
		op := slices.Index([]string{"", "+", "-", "*", "/", "%", "==", "!=", "<", "<=", "&&", "||"}, r.left[0])
		if op < 0 || strengths()[op] < least {
			break
		}
		r.take()
		e = bin(op, e, r.expr(strengths()[op]+1))
	}
	return e
}

func (r *reader) unary() api.Expr {
	switch p := r.take(); p {
	case "-":
		return neg(r.unary())
	case "!":
		return not(r.unary())
	case "(":
		e := r.expr(1)
		r.take()
		return e
	case "if":
		var l []api.Expr
		for range 3 {
			r.take()
			l = append(l, r.expr(1))
		}
		r.take()
		return of(api.EIf, 0, l...)
	case "x", "y", "z":
		return vary(int(p[0] - 'x'))
	default:
		n, err := strconv.Atoi(p)
		if err != nil {
			panic(p)
		}
		return num(n)
	}
}

// P4.3: brackets stand where they must: what is read by how operations bind is what was written.
func TestTextReadBack(t *testing.T) {
	r := rand.New(rand.NewSource(5))
	for range 5000 {
		e := some(r, 3, 1+r.Intn(6))
		for _, p := range spots(&e) {
			switch p.Kind {
			case api.ENum:
				p.Num = r.Intn(100)
			case api.ENeg, api.ENot, api.EIf:
				p.Num = 0
			}
		}
		s := Text(e, []string{"x", "y", "z"})
		in := reader{pieces(s)}
		if back := in.expr(1); !alike(back, e) || len(in.left) != 0 {
			t.Fatalf("%q was %s, is read as %s", s, shown(e), shown(back))
		}
	}
}

// P4.4
func TestSame(t *testing.T) {
	r := rand.New(rand.NewSource(6))
	for range 500 {
		a := loose(r, 5)
		if b := Copy(a); !Same(a, a) || !Same(a, b) || !Same(b, a) {
			t.Fatalf("%s is not the Same", shown(a))
		}
		for i := range spots(&a) {
			for way := range 6 {
				b := Copy(a)
				change(spots(&b)[i], way)
				if is := alike(a, b); Same(a, b) != is || Same(b, a) != is {
					t.Fatalf("Same(%s, %s): %v", shown(a), shown(b), !is)
				}
			}
		}
		b := loose(r, 3)
		if is := alike(a, b); Same(a, b) != is || Same(b, a) != is {
			t.Fatalf("Same(%s, %s): %v", shown(a), shown(b), !is)
		}
	}
	if !Same(num(1), api.Expr{Kind: api.ENum, Num: 1, Kids: []api.Expr{}}) || !Same(api.Expr{}, api.Expr{}) {
		t.Error("no kids and an empty row of them are not the Same")
	}
	x, y := vary(0), vary(1)
	if Same(bin(api.Add, x, y), bin(api.Add, y, x)) || Same(of(api.ENeg, 1, x), of(api.ENeg, 2, x)) {
		t.Error("kids turned round, or another Num, are the Same")
	}
}

// change makes one part another one.
func change(p *api.Expr, way int) {
	switch way {
	case 0:
		p.Kind++
	case 1:
		p.Num--
	case 2:
		p.Kids = append(p.Kids, api.Expr{})
	case 3:
		p.Kids = append([]api.Expr{{}}, p.Kids...)
	case 4:
		p.Kids = p.Kids[:max(0, len(p.Kids)-1)]
	case 5:
		slices.Reverse(p.Kids)
	}
}

// P4.4
func TestCopy(t *testing.T) {
	r := rand.New(rand.NewSource(7))
	for range 1000 {
		e := loose(r, 6)
		if c := Copy(e); !alike(c, e) {
			t.Fatalf("Copy of %s: %s", shown(e), shown(c))
		}
	}
	for why, e := range odd() {
		if c := Copy(e); !alike(c, e) {
			t.Errorf("Copy of %s", why)
		}
	}
}

// P4.4
func TestVars(t *testing.T) {
	for _, c := range []struct {
		e    api.Expr
		want []int
	}{
		{num(3), nil},
		{api.Expr{}, nil},
		{vary(0), []int{0}},
		{vary(9), []int{9}},
		{vary(-4), []int{-4}},
		{bin(api.Add, vary(1), vary(0)), []int{0, 1}},
		{bin(api.Add, vary(1), neg(vary(1))), []int{1}},
		{pick(vary(7), vary(2), bin(api.Add, vary(7), vary(2))), []int{2, 7}},
		{bin(api.Add, vary(api.MaxInt), bin(api.Add, vary(api.MinInt), vary(0))), []int{api.MinInt, 0, api.MaxInt}},
		{of(api.EVar, 3, vary(1), vary(3)), []int{1, 3}},
		{of(api.ENum, 3, vary(1)), []int{1}},
		{of(77, 3, num(5), vary(1), vary(0)), []int{0, 1}},
		{of(api.EBin, api.Sub, num(1), num(2), vary(6)), []int{6}},
	} {
		if l := Vars(c.e); !slices.Equal(l, c.want) {
			t.Errorf("Vars of %s: %v", shown(c.e), l)
		}
	}
	r := rand.New(rand.NewSource(8))
	for range 1000 {
		e := loose(r, 6)
		var want []int
		all, _ := parts(e)
		for k := -2; k < 12; k++ {
			if slices.ContainsFunc(all, func(p api.Expr) bool { return p.Kind == api.EVar && p.Num == k }) {
				want = append(want, k)
			}
		}
		if l := Vars(e); !slices.Equal(l, want) {
			t.Fatalf("Vars of %s: %v", shown(e), l)
		}
	}
}

// P4.4
func TestPut(t *testing.T) {
	x, y := vary(0), vary(1)
	by := bin(api.Mul, x, y)
	for _, c := range []struct {
		e    api.Expr
		k    int
		by   api.Expr
		want api.Expr
	}{
		{x, 0, num(4), num(4)},
		{x, 1, num(4), x},
		{x, 0, x, x},
		{x, 0, y, y},
		{num(0), 0, y, num(0)},
		{of(api.ENeg, 0, x), 0, y, neg(y)},
		{of(api.ENot, 0, y), 0, x, not(y)},
		{bin(api.Add, x, y), 1, num(4), bin(api.Add, x, num(4))},
		{bin(api.Add, x, x), 0, by, bin(api.Add, by, by)},
		{bin(api.Add, x, y), 0, by, bin(api.Add, by, y)},
		{bin(api.Add, x, y), 7, by, bin(api.Add, x, y)},
		{pick(x, y, neg(x)), 0, by, pick(by, y, neg(by))},
		{bin(api.Add, vary(-1), vary(-2)), -1, x, bin(api.Add, x, vary(-2))},
		{vary(api.MaxInt), api.MaxInt, x, x},
		{vary(api.MinInt), api.MinInt, x, x},
		{of(api.EVar, 0, x, y), 0, num(3), num(3)},
		{of(api.EVar, 1, x, y), 0, num(3), of(api.EVar, 1, num(3), y)},
		{of(api.ENum, 0, x, y), 0, num(3), of(api.ENum, 0, num(3), y)},
		{of(77, 0, x, of(-1, 0, x)), 0, api.Expr{}, of(77, 0, api.Expr{}, of(-1, 0, api.Expr{}))},
		{bin(api.Add, x, y), 1, of(77, 5, x, x, x, x), bin(api.Add, x, of(77, 5, x, x, x, x))},
	} {
		if e := Put(c.e, c.k, c.by); !alike(e, c.want) || !Same(e, c.want) {
			t.Errorf("Put(%s, %d, %s): %s", shown(c.e), c.k, shown(c.by), shown(e))
		}
	}
}

// P4.4: held against what is put into the text of all there is.
func TestPutAnywhere(t *testing.T) {
	r := rand.New(rand.NewSource(9))
	for range 2000 {
		e, by, k := loose(r, 5), loose(r, 3), r.Intn(14)-2
		want := Copy(e)
		for _, p := range spots(&want) {
			// A place within what was replaced is no longer part of the whole.
			if p.Kind == api.EVar && p.Num == k {
				p.Kind, p.Num, p.Kids = 1000, 0, nil
			}
		}
		s := strings.ReplaceAll(shown(want), "{1000 0}", shown(by))
		if got := Put(e, k, by); shown(got) != s {
			t.Fatalf("Put(%s, %d, %s): %s", shown(e), k, shown(by), shown(got))
		}
	}
}

// P4.1, P4.3, P4.4: as deep as the document's bound lets parts be nested.
func TestNested(t *testing.T) {
	const deep = 1 << 16
	for _, c := range []struct {
		kind, at, kids, size int
		text                 func(s string) bool
	}{
		{api.ENeg, 0, 1, deep, func(s string) bool { return s == strings.Repeat("-", deep-1)+"x" }},
		{api.EBin, 0, 2, 2*deep - 1, func(s string) bool { return s == "x"+strings.Repeat(" + 1", deep-1) }},
		{api.EBin, 1, 2, 2*deep - 1, func(s string) bool {
			return s == strings.Repeat("1 + (", deep-2)+"1 + x"+strings.Repeat(")", deep-2)
		}},
		{api.EIf, 2, 3, 3*deep - 2, func(s string) bool {
			return s == strings.Repeat("if(1, 1, ", deep-1)+"x"+strings.Repeat(")", deep-1)
		}},
	} {
		e := vary(0)
		for range deep - 1 {
			l := []api.Expr{num(1), num(1), num(1)}[:c.kids]
			l[c.at] = e
			e = of(c.kind, api.Add, l...)
		}
		if Depth(e) != deep || Size(e) != c.size || !slices.Equal(Vars(e), []int{0}) {
			t.Errorf("Depth %d, Size %d, Vars %v", Depth(e), Size(e), Vars(e))
		}
		if !Same(e, Copy(e)) || Same(e, Put(e, 0, num(1))) || !Same(e, Put(Put(e, 0, vary(1)), 1, vary(0))) {
			t.Error("Same, Copy or Put")
		}
		if !c.text(Text(e, []string{"x"})) {
			t.Errorf("Text of kind %d", c.kind)
		}
		if Right(e, 1) {
			t.Error("right")
		}
	}
}

// P4.1, P4.3, P4.4: so many kids of one part are looked at like few.
func TestManyKids(t *testing.T) {
	e := of(api.EBin, api.Add, times(vary(0), 1<<16)...)
	e.Kids[1<<16-1] = neg(vary(3))
	if Depth(e) != 3 || Size(e) != 1<<16+2 || !slices.Equal(Vars(e), []int{0, 3}) || Text(e, []string{"x"}) != "x + x" || Right(e, 9) || !alike(Copy(e), e) || len(Put(e, 0, num(1)).Kids) != 1<<16 {
		t.Errorf("Depth %d, Size %d, Vars %v", Depth(e), Size(e), Vars(e))
	}
}

// roomy is e with spare room behind all rows of kids.
func roomy(e api.Expr) api.Expr {
	whole := make([]api.Expr, len(e.Kids)+3)
	for i, kid := range e.Kids {
		whole[i] = roomy(kid)
	}
	for i := len(e.Kids); i < len(whole); i++ {
		whole[i] = of(-77, -77, num(-77))
	}
	return api.Expr{Kind: e.Kind, Num: e.Num, Kids: whole[:len(e.Kids)]}
}

// inRoom is all there is in e and in its spare room.
func inRoom(e api.Expr) string {
	s := fmt.Sprintf("{%d %d %d", e.Kind, e.Num, len(e.Kids))
	for _, kid := range e.Kids[:cap(e.Kids)] {
		s += inRoom(kid)
	}
	return s + "}"
}

// spoil overwrites what is in e, in all depths, and its spare room.
func spoil(e api.Expr) {
	for i, kid := range e.Kids[:cap(e.Kids)] {
		spoil(kid)
		e.Kids[:cap(e.Kids)][i] = api.Expr{Kind: -99, Num: -99}
	}
}

// P4.5
func TestArgumentsStay(t *testing.T) {
	r := rand.New(rand.NewSource(10))
	for i := range 500 {
		a, b := roomy(loose(r, 4)), roomy(loose(r, 3))
		if i%2 == 0 {
			a, b = roomy(some(r, 3, 5)), roomy(some(r, 3, 3))
		}
		wasA, wasB := inRoom(a), inRoom(b)
		env := []int{4, 5, 6, 7, 8}
		names := []string{"x", "y", "z", "u", "v"}
		Right(a, 3)
		Depth(a)
		Size(a)
		Eval(a, env[:3])
		Text(a, names[:3])
		Same(a, b)
		Same(a, a)
		clear(Vars(a))
		spoil(Copy(a))
		for k := range 3 {
			spoil(Put(a, k, b))
			spoil(Put(a, k, a))
		}
		if inRoom(a) != wasA || inRoom(b) != wasB {
			t.Fatalf("%s, %s became %s, %s", wasA, wasB, inRoom(a), inRoom(b))
		}
		if !slices.Equal(env, []int{4, 5, 6, 7, 8}) || !slices.Equal(names, []string{"x", "y", "z", "u", "v"}) {
			t.Fatalf("%v, %v", env, names)
		}
	}
}

// P4.5: an answer is as it was when what was handed in, or another answer, is overwritten.
func TestAnswersAreNew(t *testing.T) {
	r := rand.New(rand.NewSource(11))
	for range 500 {
		a, b := roomy(loose(r, 4)), roomy(loose(r, 3))
		k := r.Intn(3)
		got, again := []api.Expr{Copy(a), Put(a, k, b), Put(a, k, a)}, []api.Expr{Copy(a), Put(a, k, b), Put(a, k, a)}
		vars, others := Vars(a), Vars(a)
		want, was := fmt.Sprint(got), slices.Clone(vars)
		spoil(a)
		spoil(b)
		for _, e := range again {
			spoil(e)
		}
		for i := range others[:cap(others)] {
			others[:cap(others)][i] = -99
		}
		if fmt.Sprint(got) != want || !slices.Equal(vars, was) {
			t.Fatalf("%s, %v became %v, %v", want, was, got, vars)
		}
	}
}

// P4.5, W6: no two rows of one answer share memory, though by is put in often, and what is handed in may share.
func TestAnswersAreApart(t *testing.T) {
	x := vary(0)
	shared := neg(x)
	by := bin(api.Mul, neg(vary(1)), num(2))
	for _, e := range []api.Expr{
		Put(bin(api.Add, x, bin(api.Sub, x, neg(x))), 0, by),
		Copy(bin(api.Add, shared, pick(shared, shared, shared))),
		Put(bin(api.Add, shared, pick(shared, shared, shared)), 5, by),
		Put(bin(api.Add, shared, shared), 0, shared),
	} {
		seen := map[*api.Expr]int{}
		for _, p := range spots(&e) {
			for i := range p.Kids[:cap(p.Kids)] {
				seen[&p.Kids[:cap(p.Kids)][i]]++
			}
		}
		for at, n := range seen {
			if n > 1 {
				t.Errorf("%s stands in %d rows of %s", shown(*at), n, shown(e))
			}
		}
	}
}

// P4.6
func TestEvalOfWhatWasPut(t *testing.T) {
	r := rand.New(rand.NewSource(12))
	good := 0
	for range 20000 {
		env := []int{r.Intn(9) - 4, r.Intn(3) - 1, r.Intn(2), api.MaxInt - r.Intn(2)}
		e, by, k := some(r, 4, 1+r.Intn(4)), some(r, 4, 1+r.Intn(3)), r.Intn(4)
		v, err := Eval(by, env)
		if err != api.OK {
			continue
		}
		n, err := Eval(Put(e, k, by), env)
		other := slices.Clone(env)
		other[k] = v
		if want, why := Eval(e, other); n != want || err != why {
			t.Fatalf("%s with %s at %d beside %v: %d, %v, not %d, %v", Text(e, nil), Text(by, nil), k, env, n, err, want, why)
		}
		if err == api.OK && slices.Contains(Vars(e), k) {
			good++
		}
	}
	if good < 1000 {
		t.Errorf("only %d told a number", good)
	}
}

// P4.7
func TestOtherVariablesDoNotMatter(t *testing.T) {
	r := rand.New(rand.NewSource(13))
	differ := 0
	for range 10000 {
		env := []int{r.Intn(9) - 4, r.Intn(3) - 1, r.Intn(2), 7, -2}
		e := some(r, 5, 1+r.Intn(4))
		vars := Vars(e)
		n, err := Eval(e, env)
		other, names := slices.Clone(env), []string{"a", "b", "c", "d", "e"}
		for k := range other {
			if !slices.Contains(vars, k) {
				other[k] = r.Int() - r.Int()
				names[k] = "other"
			}
		}
		if m, why := Eval(e, other); m != n || why != err {
			t.Fatalf("%s beside %v: %d, %v; beside %v: %d, %v", Text(e, nil), env, n, err, other, m, why)
		}
		if m, why := Eval(e, append(other, 9, 9, 9)); m != n || why != err {
			t.Fatalf("%s beside more: %d, %v, not %d, %v", Text(e, nil), m, why, n, err)
		}
		if s := Text(e, names); strings.Contains(s, "other") {
			t.Fatalf("%q has a variable that is not in Vars", s)
		}
		// Those that are in Vars are asked for.
		for _, k := range vars {
			if _, err := Eval(e, env[:k]); err != api.ErrArg {
				t.Fatalf("%s beside %d: %v", Text(e, nil), k, err)
			}
			env[k]++
			if m, why := Eval(e, env); m != n || why != err {
				differ++
			}
			env[k]--
		}
	}
	if differ < 1000 {
		t.Errorf("variables in Vars mattered %d times", differ)
	}
}
