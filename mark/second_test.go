package mark

import (
	"bytes"
	"encoding/binary"
	"fmt"
	"io"
	"math/rand"
	"slices"
	"strconv"
	"strings"

	"baldric/api"
	"baldric/colour"
)

// second tells what the calls have to, over tokens that are laid out one place and member at a time.
type second struct{}

// rightBag is asked of each two rows.
func (second) rightBag(b api.Bag) bool {
	for i, row := range b {
		if row[0] < 0 || row[1] <= 0 || row[1] > 1<<20 {
			return false
		}
		for _, later := range b[i+1:] {
			if later[0] <= row[0] {
				return false
			}
		}
	}
	return true
}

// tokens is how many there are of each place and member, where the bags are right.
func (s second) tokens(m api.Marking) map[[2]int]int {
	all := map[[2]int]int{}
	for i, b := range m {
		if s.rightBag(b) {
			for _, row := range b {
				all[[2]int{i, row[0]}] += row[1]
			}
		}
	}
	return all
}

func (s second) allRight(l ...api.Marking) bool {
	for _, m := range l {
		for _, b := range m {
			if !s.rightBag(b) {
				return false
			}
		}
	}
	return true
}

func (s second) same(a, b api.Marking) bool {
	return s.within(a, b) && s.within(b, a)
}

func (s second) within(a, b api.Marking) bool {
	if len(a) != len(b) || !s.allRight(a, b) {
		return false
	}
	more := s.tokens(b)
	for at, n := range s.tokens(a) {
		if n > more[at] {
			return false
		}
	}
	return true
}

func (s second) compare(a, b api.Marking) int {
	if len(a) != len(b) {
		return map[bool]int{true: 1, false: -1}[len(a) > len(b)]
	}
	inA, inB := s.tokens(a), s.tokens(b)
	var unlike [][2]int
	for i := range a {
		if !s.rightBag(a[i]) || !s.rightBag(b[i]) {
			continue
		}
		for _, row := range slices.Concat(a[i], b[i]) {
			if at := [2]int{i, row[0]}; inA[at] != inB[at] {
				unlike = append(unlike, at)
			}
		}
	}
	if len(unlike) == 0 {
		return 0
	}
	first := slices.MinFunc(unlike, func(x, y [2]int) int { return slices.Compare(x[:], y[:]) })
	return map[bool]int{true: 1, false: -1}[inA[first] > inB[first]]
}

func (s second) at(m api.Marking, place int) int {
	n := 0
	for at, count := range s.tokens(m) {
		if at[0] == place {
			n += count
		}
	}
	return n
}

func (s second) total(m api.Marking) int {
	n := 0
	for i := range m {
		n += s.at(m, i)
	}
	return n
}

func (s second) final(n api.Net, m api.Marking) bool {
	if len(m) != len(n.Places) {
		return false
	}
	once := false
	for i := range n.Places {
		if i == n.To && s.at(m, i) == 1 {
			once = true
		} else if s.at(m, i) != 0 {
			return false
		}
	}
	return once
}

func (s second) ended(n api.Net, m api.Marking) bool {
	for i := range n.Places {
		if i == n.To && s.at(m, i) > 0 {
			return true
		}
	}
	return false
}

func (s second) first(n api.Net) api.Marking {
	var m api.Marking
	for i, p := range n.Places {
		rows := slices.Concat(p.First)
		if i == n.From && s.rightBag(p.First) {
			switch {
			case len(rows) == 0 || rows[0][0] != 0:
				rows = slices.Insert(rows, 0, [2]int{0, 1})
			case rows[0][1] < 1<<20:
				rows[0][1]++
			}
		}
		m = append(m, rows)
	}
	return m
}

func (s second) right(n api.Net, m api.Marking) bool {
	if len(m) != len(n.Places) || !s.allRight(m) {
		return false
	}
	for at := range s.tokens(m) {
		if colour.Text(n.Colours, n.Places[at[0]].Colour, at[1]) == "?" {
			return false
		}
	}
	return true
}

func (s second) encode(m api.Marking) ([]byte, api.Errno) {
	if len(m) > 64 || !s.allRight(m) {
		return nil, api.ErrArg
	}
	b := []byte{byte(len(m))}
	for _, bag := range m {
		if len(bag) > 65535 {
			return nil, api.ErrArg
		}
		b = binary.BigEndian.AppendUint16(b, uint16(len(bag)))
		for _, row := range bag {
			if uint64(row[0]) > 0xffffffff {
				return nil, api.ErrArg
			}
			b = binary.BigEndian.AppendUint32(b, uint32(row[0]))
			b = binary.BigEndian.AppendUint32(b, uint32(row[1]))
		}
	}
	return b, api.OK
}

func (s second) decode(b []byte) (api.Marking, api.Errno) {
	r := bytes.NewReader(b)
	bags, err := r.ReadByte()
	if err != nil || bags > 64 {
		return nil, api.ErrForm
	}
	m := api.Marking{}
	for range bags {
		var rows uint16
		if binary.Read(r, binary.BigEndian, &rows) != nil {
			return nil, api.ErrForm
		}
		bag := api.Bag{}
		for range rows {
			var row [2]uint32
			if binary.Read(r, binary.BigEndian, &row) != nil {
				return nil, api.ErrForm
			}
			bag = append(bag, [2]int{int(row[0]), int(row[1])})
		}
		m = append(m, bag)
	}
	if _, err := r.ReadByte(); err != io.EOF || !s.allRight(m) {
		return nil, api.ErrForm
	}
	return m, api.OK
}

func (second) text(n api.Net, m api.Marking) string {
	var places []string
	for i, p := range n.Places {
		if i >= len(m) || len(m[i]) == 0 {
			continue
		}
		text := p.Name + ":"
		for _, row := range m[i] {
			text += fmt.Sprintf(" %s*%d", colour.Text(n.Colours, p.Colour, row[0]), row[1])
		}
		places = append(places, text)
	}
	return "{" + strings.Join(places, ", ") + "}"
}

// alike tells whether two markings have the same rows, whatever these are.
func alike(a, b api.Marking) bool {
	return slices.EqualFunc(a, b, func(x, y api.Bag) bool { return slices.Equal(x, y) })
}

// pick is one of these.
func pick[T any](r *rand.Rand, l ...T) T { return l[r.Intn(len(l))] }

// fine is a net with places of each kind of colour.
func fine() api.Net {
	return api.Net{
		Colours: []api.Colour{
			{Name: "n", Kind: api.CInt, Lo: -1, Hi: 2},
			{Name: "c", Kind: api.CEnum, Names: []string{"red", "blue"}},
			{Name: "p", Kind: api.CPair, First: 1, Then: 0},
		},
		Places: []api.Place{
			{Name: "a", Colour: 0, First: api.Bag{{0, 2}, {3, 1}}},
			{Name: "b", Colour: 2, First: api.Bag{{7, api.MaxCount}}},
			{Name: "d", Colour: 1},
			{Name: "e", Colour: 0},
		},
		From: 0, To: 3,
	}
}

// wrongBags is bags that are not right, each for one reason.
func wrongBags() []api.Bag {
	return []api.Bag{
		{{0, 0}}, {{0, -1}}, {{1, api.MaxCount + 1}}, {{0, api.MaxInt}}, {{0, api.MinInt}}, {{0, 1<<32 + 1}},
		{{-1, 1}}, {{api.MinInt, 1}}, {{-1, 1}, {0, 1}}, {{1, 1}, {0, 1}}, {{1, 1}, {1, 1}}, {{0, 1}, {0, 1}},
		{{0, 1}, {1, 0}}, {{0, 0}, {1, 1}}, {{0, 1}, {1, 1}, {1, 1}}, {{0, 1}, {2, 1}, {1, 1}},
	}
}

// made makes markings and nets of numbers that are often ones that may be.
type made struct{ *rand.Rand }

func (r made) member() int {
	return pick(r.Rand, 0, 0, 1, 1, 2, 3, 4, 7, 8, 1<<32-1, 1<<32, api.MaxInt)
}

func (r made) count() int {
	return pick(r.Rand, 1, 1, 1, 2, 3, 255, 256, 1<<16, api.MaxCount-1, api.MaxCount)
}

// right is a right bag.
func (r made) right() api.Bag {
	var members []int
	for range r.Intn(4) {
		members = append(members, r.member())
	}
	slices.Sort(members)
	var b api.Bag
	for _, m := range slices.Compact(members) {
		b = append(b, [2]int{m, r.count()})
	}
	return b
}

// bag is one that is right but in a few cases.
func (r made) bag() api.Bag {
	switch r.Intn(12) {
	case 0:
		return pick(r.Rand, wrongBags()...)
	case 1:
		b := r.right()
		for _, row := range b {
			b = append(b, [2]int{row[0], r.count()})
		}
		return b
	case 2, 3, 4:
		return nil
	}
	return r.right()
}

func (r made) marking(places int) api.Marking {
	var m api.Marking
	for range places {
		m = append(m, r.bag())
	}
	return m
}

// tame is a marking of members below 4 and right bags alone.
func (r made) tame(places int) api.Marking {
	m := make(api.Marking, places)
	for i := range m {
		for member := range 4 {
			if r.Intn(4) == 0 {
				m[i] = append(m[i], [2]int{member, pick(r.Rand, 1, 1, 2, api.MaxCount)})
			}
		}
	}
	return m
}

// near is m, but for a few bags.
func (r made) near(m api.Marking) api.Marking {
	l := make(api.Marking, len(m))
	for i, b := range m {
		l[i] = slices.Concat(b)
		if len(b) > 0 && r.Intn(4) == 0 {
			l[i][r.Intn(len(b))][r.Intn(2)] += pick(r.Rand, 1, -1)
		}
		if r.Intn(8) == 0 {
			l[i] = r.bag()
		}
	}
	if len(l) > 0 && r.Intn(8) == 0 {
		l = l[:len(l)-1]
	}
	return l
}

// net is fine, or one of its colours, with places and ends that may be none.
func (r made) net() api.Net {
	n := api.Net{Colours: fine().Colours[:r.Intn(4)]}
	if len(n.Colours) > 0 && r.Intn(6) == 0 {
		n.Colours[0].Hi = n.Colours[0].Lo + pick(r.Rand, -1, 0, 7, 1023, 1024)
	}
	for i := range r.Intn(5) {
		n.Places = append(n.Places, api.Place{
			Name: pick(r.Rand, "", "a", "b", "place") + strconv.Itoa(i), Colour: pick(r.Rand, 0, 0, 1, 2, -1, 3, api.MaxInt), First: r.bag(),
		})
	}
	n.From = pick(r.Rand, 0, 0, 1, 2, 3, 4, -1, api.MaxInt, api.MinInt)
	n.To = pick(r.Rand, 0, 1, 1, 2, 3, 4, -1, api.MaxInt, api.MinInt)
	return n
}
