package bind

import (
	"iter"
	"math/bits"
	"slices"

	"baldric/api"
)

// digits counts up, the first digit counting most, each below its base; the row is the same one each time.
func digits(bases []int) iter.Seq[[]int] {
	return func(yield func([]int) bool) {
		row := make([]int, len(bases))
		for yield(row) {
			at := len(row) - 1
			for at >= 0 && row[at] == bases[at]-1 {
				row[at] = 0
				at--
			}
			if at < 0 {
				return
			}
			row[at]++
		}
	}
}

// product is that of all bases, or one more than MaxBinds.
func product(bases []int) int {
	p := 1
	for _, base := range bases {
		p = min(p*base, api.MaxBinds+1)
	}
	return p
}

// ones is the places of the bits of n that are set.
func ones(n int) []int {
	var l []int
	for u := uint(n); u != 0; u &= u - 1 {
		l = append(l, bits.TrailingZeros(u))
	}
	return l
}

// each is a row for each of so many places.
func each(places int) [][]int {
	var l [][]int
	for at := range places {
		l = append(l, []int{at})
	}
	return l
}

// rows is all rows of so many places but the empty one.
func rows(places int) [][]int {
	var l [][]int
	for n := 1; n < 1<<places; n++ {
		l = append(l, ones(n))
	}
	return l
}

// chosen tells whether which is one of the Choices.
func chosen(kind, arcs int, which []int) bool {
	return slices.ContainsFunc(Choices(kind, arcs), func(l []int) bool { return slices.Equal(l, which) })
}

// firstOf is the first most modes of l.
func firstOf(l iter.Seq[api.Mode], most int) []api.Mode {
	if most < 1 {
		return nil
	}
	var kept []api.Mode
	for o := range l {
		kept = append(kept, o)
		if len(kept) == most {
			break
		}
	}
	return kept
}

// copyOf shares no memory with l, which an empty piece of l would.
func copyOf(l []int) []int { return append([]int(nil), l...) }
