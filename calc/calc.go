// Package calc is layer 1: numbers that do not go round: see shared/doc/01-calc.md.
package calc

import (
	"baldric/api"
)

// Do is the operation of a and b, or why it is no number.
func Do(op, a, b int) (int, api.Errno) {
	switch op {
	case api.Add:
		return add(a, b)
	case api.Sub:
		return sub(a, b)
	case api.Mul:
		return mul(a, b)
	case api.Div:
		return div(a, b)
	case api.Rem:
		return rem(a, b)
	case api.Eq:
		return truth(a == b), api.OK
	case api.Ne:
		return truth(a != b), api.OK
	case api.Lt:
		return truth(a < b), api.OK
	case api.Le:
		return truth(a <= b), api.OK
	case api.And:
		return truth(a != 0 && b != 0), api.OK
	case api.Or:
		return truth(a != 0 || b != 0), api.OK
	}
	return 0, api.ErrArg
}

// Neg is 0 less a.
func Neg(a int) (int, api.Errno) { return Do(api.Sub, 0, a) }

// Known tells whether op is an operation.
func Known(op int) bool { return op >= api.Add && op <= api.Or }

// Sign is how op is written.
func Sign(op int) string {
	switch op {
	case api.Add:
		return "+"
	case api.Sub:
		return "-"
	case api.Mul:
		return "*"
	case api.Div:
		return "/"
	case api.Rem:
		return "%"
	case api.Eq:
		return "=="
	case api.Ne:
		return "!="
	case api.Lt:
		return "<"
	case api.Le:
		return "<="
	case api.And:
		return "&&"
	case api.Or:
		return "||"
	}
	return "?"
}

// Op is the operation that is written s, if there is one.
func Op(s string) (int, bool) {
	// Only known operations are asked, since Sign has a text for all the others too.
	for op := api.Add; op <= api.Or; op++ {
		if Sign(op) == s {
			return op, true
		}
	}
	return 0, false
}

// Strength is how closely op holds what stands beside it; 0 of what is no operation.
func Strength(op int) int {
	switch op {
	case api.Mul, api.Div, api.Rem:
		return 5
	case api.Add, api.Sub:
		return 4
	case api.Eq, api.Ne, api.Lt, api.Le:
		return 3
	case api.And:
		return 2
	case api.Or:
		return 1
	}
	return 0
}

// Fold is op of all of l, from the left.
func Fold(op int, l ...int) (int, api.Errno) {
	// A list of one never comes to Do, so an unknown operation is refused here.
	if !Known(op) || len(l) == 0 {
		return 0, api.ErrArg
	}
	n := l[0]
	for _, b := range l[1:] {
		var err api.Errno
		if n, err = Do(op, n, b); err != api.OK {
			return 0, err
		}
	}
	return n, api.OK
}

func truth(is bool) int {
	if is {
		return 1
	}
	return 0
}

func add(a, b int) (int, api.Errno) {
	if b > 0 && a > api.MaxInt-b || b < 0 && a < api.MinInt-b {
		return 0, api.ErrOver
	}
	return a + b, api.OK
}

func sub(a, b int) (int, api.Errno) {
	if b > 0 && a < api.MinInt+b || b < 0 && a > api.MaxInt+b {
		return 0, api.ErrOver
	}
	return a - b, api.OK
}

func mul(a, b int) (int, api.Errno) {
	if b == 0 {
		return 0, api.OK
	}
	// Where dividing goes round too, it would give a back and hide that the product did.
	n := a * b
	if goesRound(a, b) || n/b != a {
		return 0, api.ErrOver
	}
	return n, api.OK
}

func div(a, b int) (int, api.Errno) {
	if err := divisible(a, b); err != api.OK {
		return 0, err
	}
	return a / b, api.OK
}

func rem(a, b int) (int, api.Errno) {
	if err := divisible(a, b); err != api.OK {
		return 0, err
	}
	return a % b, api.OK
}

func divisible(a, b int) api.Errno {
	if b == 0 {
		return api.ErrZero
	}
	if goesRound(a, b) {
		return api.ErrOver
	}
	return api.OK
}

// goesRound: there is no 2^63, so this is the only quotient that is no int.
func goesRound(a, b int) bool { return a == api.MinInt && b == -1 }
