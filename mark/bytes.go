package mark

import (
	"slices"

	"baldric/api"
	"baldric/bag"
)

// How many bytes a number has.
const (
	bagsWide = 1
	rowsWide = 2
	cellWide = 4
)

// The greatest numbers that so many bytes tell.
const (
	maxRows   = 1<<(8*rowsWide) - 1
	maxMember = 1<<(8*cellWide) - 1
)

// Encode is bytes that tell m.
func Encode(m api.Marking) ([]byte, api.Errno) {
	if len(m) > api.MaxPlaces || slices.ContainsFunc(m, unfit) {
		return nil, api.ErrArg
	}
	b := put(nil, bagsWide, len(m))
	for _, rows := range m {
		b = put(b, rowsWide, len(rows))
		for _, row := range rows {
			b = put(b, cellWide, row[0], row[1])
		}
	}
	return b, api.OK
}

// Decode is the marking that b tells.
func Decode(b []byte) (api.Marking, api.Errno) {
	r := reader{left: b}
	m := r.marking()
	if r.short || len(r.left) > 0 || len(m) > api.MaxPlaces || slices.ContainsFunc(m, unfit) {
		return nil, api.ErrForm
	}
	return m, api.OK
}

// unfit tells whether no bytes tell b.
func unfit(b api.Bag) bool {
	return !bag.Right(b) || len(b) > maxRows || len(b) > 0 && greatest(b) > maxMember
}

// put appends numbers of so many bytes each, the high ones first.
func put(b []byte, wide int, numbers ...int) []byte {
	for _, n := range numbers {
		for at := wide - 1; at >= 0; at-- {
			b = append(b, byte(n>>(8*at)))
		}
	}
	return b
}

// reader takes numbers from the front of bytes, till there are too few.
type reader struct {
	left  []byte
	short bool
}

func (r *reader) number(wide int) int {
	if len(r.left) < wide {
		r.short = true
		return 0
	}
	n := 0
	for _, c := range r.left[:wide] {
		n = n<<8 | int(c)
	}
	r.left = r.left[wide:]
	return n
}

func (r *reader) marking() api.Marking {
	m := make(api.Marking, r.number(bagsWide))
	for i := range m {
		m[i] = r.bag()
	}
	return m
}

func (r *reader) bag() api.Bag {
	rows := r.number(rowsWide)
	// Asked ahead, so that few bytes never make many rows.
	if rows > len(r.left)/(2*cellWide) {
		r.short = true
		return nil
	}
	b := make(api.Bag, rows)
	for i := range b {
		b[i] = [2]int{r.number(cellWide), r.number(cellWide)}
	}
	return b
}
