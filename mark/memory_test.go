package mark

import (
	"bytes"
	"fmt"
	"math/rand"
	"runtime"
	"slices"
	"testing"
	"unsafe"

	"baldric/api"
)

// span is where memory begins and ends, spare room too.
type span struct {
	what       string
	begin, end uintptr
}

func spanOf[T any](what string, l []T) span {
	at := uintptr(unsafe.Pointer(unsafe.SliceData(l)))
	var one T
	return span{what, at, at + uintptr(cap(l))*unsafe.Sizeof(one)}
}

func spansOf(what string, m api.Marking) []span {
	l := []span{spanOf(what, m)}
	for i, b := range m {
		l = append(l, spanOf(fmt.Sprint(what, " ", i), b))
	}
	return l
}

// apart fails where two of these share memory.
func apart(t *testing.T, l []span) {
	t.Helper()
	for i, a := range l {
		for _, b := range l[:i] {
			if a.begin < b.end && b.begin < a.end {
				t.Fatalf("%s and %s share memory", a.what, b.what)
			}
		}
	}
}

// roomy is the rows of l with spare room behind them, in which there are others.
func roomy[T any](spare T, l ...T) []T {
	return append(slices.Clip(slices.Clone(l)), spare, spare)[:len(l)]
}

// roomyMarking has spare room in all depths.
func roomyMarking(m api.Marking) api.Marking {
	var l api.Marking
	for _, b := range m {
		l = append(l, roomy([2]int{9, 9}, b...))
	}
	return roomy(api.Bag{{8, 8}}, l...)
}

// whole is all that is in m and in its spare room.
func whole(m api.Marking) string {
	s := ""
	for _, b := range m[:cap(m)] {
		s += fmt.Sprintln(b[:cap(b)], len(b))
	}
	return s
}

// spoil writes into all of m, its spare room too.
func spoil(m api.Marking) {
	for _, b := range m {
		clear(b[:cap(b)])
	}
	clear(m[:cap(m)])
}

// P9.5: markings that are handed in stay as they are, their spare room too; those that are answered may be written into.
func TestMarkingsAreNew(t *testing.T) {
	r := made{rand.New(rand.NewSource(95))}
	for range 3000 {
		n := r.net()
		for i := range n.Places {
			n.Places[i].First = roomy([2]int{9, 9}, n.Places[i].First...)
		}
		m := roomyMarking(r.marking(r.Intn(5)))
		if r.Intn(2) == 0 {
			m = roomyMarking(r.tame(len(n.Places)))
		}
		firsts := make(api.Marking, len(n.Places))
		for i, p := range n.Places {
			firsts[i] = p.First
		}
		ahead, net := whole(m)+whole(firsts), fmt.Sprintf("%+v", n)
		first, twice, copied, again := First(n), First(n), Copy(m), Copy(m)
		apart(t, slices.Concat(spansOf("m", m), spansOf("First", firsts), spansOf("first", first), spansOf("twice", twice), spansOf("copied", copied), spansOf("again", again)))
		Right(n, m)
		Same(m, first)
		Same(m, m)
		Compare(m, first)
		Within(first, m)
		Total(m)
		Final(n, m)
		Ended(n, m)
		Text(n, m)
		Encode(m)
		spoil(first)
		spoil(copied)
		if whole(m)+whole(firsts) != ahead || fmt.Sprintf("%+v", n) != net {
			t.Fatalf("%v: %s", m, ahead)
		}
		if !alike(twice, First(n)) || !alike(again, m) {
			t.Fatalf("%v, %v", twice, again)
		}
		runtime.KeepAlive([]api.Marking{m, firsts, first, twice, copied, again})
	}
}

// P9.5: an empty piece of a list shares no memory either.
func TestEmptyPieces(t *testing.T) {
	b := api.Bag{{1, 1}, {2, 2}}
	n := api.Net{Places: []api.Place{{First: b[:0]}, {First: b[1:1]}}, From: 5}
	m := api.Marking{b[:0], b[1:1]}
	for _, l := range []api.Marking{First(n), Copy(m)} {
		if len(l) != 2 || len(l[0])+len(l[1]) != 0 {
			t.Fatalf("%v", l)
		}
		for _, rows := range l {
			if at := unsafe.SliceData(rows); at != nil && (at == &b[0] || at == &b[1]) {
				t.Errorf("%v has an address in what was handed in", l)
			}
		}
		for i := range l {
			l[i] = append(l[i], [2]int{7, 7})
		}
	}
	if l := Copy(m[:0]); len(l) != 0 || cap(l) > 0 && unsafe.SliceData(l) == &m[0] {
		t.Errorf("%v", l)
	}
	if b[0] != [2]int{1, 1} || b[1] != [2]int{2, 2} {
		t.Errorf("%v", b)
	}
}

// P9.5: bytes that are handed in stay as they are, and what is answered hangs on them no longer.
func TestBytesAreNew(t *testing.T) {
	r := made{rand.New(rand.NewSource(59))}
	for range 2000 {
		m := r.tame(r.Intn(5))
		b, err := Encode(m)
		again, _ := Encode(m)
		if err != api.OK {
			t.Fatal(err)
		}
		apart(t, slices.Concat(spansOf("m", m), []span{spanOf("b", b), spanOf("again", again)}))
		b = roomy(byte(7), b...)
		whole := slices.Clone(b[:cap(b)])
		back, err := Decode(b)
		other, _ := Decode(b)
		if err != api.OK || !bytes.Equal(whole, b[:cap(b)]) {
			t.Fatalf("%v, %v", b, err)
		}
		apart(t, slices.Concat(spansOf("back", back), spansOf("other", other), []span{spanOf("b", b)}))
		clear(b[:cap(b)])
		clear(again[:cap(again)])
		spoil(other)
		if !alike(back, m) {
			t.Fatalf("%v: %v", m, back)
		}
		runtime.KeepAlive([]any{m, b, again, back, other})
	}
}

// P9.5: texts that are answered share no memory with names.
func TestTextIsNew(t *testing.T) {
	n := fine()
	for i, p := range n.Places {
		n.Places[i].Name = string([]byte(p.Name + "{}"))
	}
	for _, m := range []api.Marking{nil, {{{0, 1}}}, {nil, nil, {{0, 1}}}, First(n)} {
		s := Text(n, m)
		l := []span{spanOf("text", unsafe.Slice(unsafe.StringData(s), len(s)))}
		for _, name := range []string{n.Places[0].Name, n.Places[1].Name, n.Places[2].Name, n.Colours[1].Names[0], n.Colours[1].Names[1]} {
			apart(t, append(slices.Clone(l), spanOf(name, unsafe.Slice(unsafe.StringData(name), len(name)))))
		}
		runtime.KeepAlive(s)
	}
}

// W5: lists that are none and empty ones are alike, in all depths.
func TestEmptyAndNone(t *testing.T) {
	r := made{rand.New(rand.NewSource(55))}
	for range 3000 {
		n := r.net()
		m := r.marking(len(n.Places))
		other := n
		other.Places = slices.Clone(n.Places)
		for i := range other.Places {
			if len(other.Places[i].First) == 0 {
				other.Places[i].First = api.Bag{}
			}
		}
		l := Copy(m)
		for i := range l {
			if len(l[i]) == 0 {
				l[i] = pick(r.Rand, nil, api.Bag{}, make(api.Bag, 0, 3))
			}
		}
		a, err := Encode(m)
		b, wrong := Encode(l)
		if !alike(First(n), First(other)) || Right(n, m) != Right(other, l) || Same(m, l) != Same(m, m) || Compare(m, l) != 0 || Within(m, l) != Within(m, m) ||
			Total(m) != Total(l) || Final(n, m) != Final(n, l) || Ended(n, m) != Ended(n, l) || Text(n, m) != Text(n, l) || err != wrong || !bytes.Equal(a, b) {
			t.Fatalf("%v, %v", m, l)
		}
	}
}

// W1: markings far past all limits.
func TestGreatMarkings(t *testing.T) {
	m := make(api.Marking, 1<<16)
	n := api.Net{Places: make([]api.Place, 1<<16), To: 1<<16 - 1}
	m[n.To] = rising(1 << 16)
	if Right(n, m) || !Same(m, m) || Compare(m, Copy(m)) != 0 || !Within(m, m) || Final(n, m) || !Ended(n, m) || Total(m) < 1<<16 {
		t.Error("a long marking")
	}
	if b, err := Encode(m); b != nil || err != api.ErrArg {
		t.Error(err)
	}
	if s := Text(n, m); len(s) < 4<<16 {
		t.Error(len(s))
	}
	m[n.To] = api.Bag{{api.MaxInt, 1}}
	if !Final(n, m) {
		t.Error("one token")
	}
}

// The README's example.
func TestReadme(t *testing.T) {
	n := api.Net{
		Colours: []api.Colour{{Name: "n", Kind: api.CInt, Lo: 0, Hi: 3}},
		Places:  []api.Place{{Name: "a", First: api.Bag{{0, 1}}}, {Name: "b"}},
		From:    0, To: 1,
	}
	m := First(n)
	if Text(n, m) != "{a: 0*2}" || !Right(n, m) || Final(n, m) {
		t.Error(Text(n, m))
	}
	end := api.Marking{nil, {{3, 1}}}
	if !Final(n, end) || Compare(m, end) != 1 || Within(m, end) {
		t.Error("Final, Compare, Within")
	}
	b, err := Encode(end)
	if err != api.OK || !bytes.Equal(b, []byte{2, 0, 0, 0, 1, 0, 0, 0, 3, 0, 0, 0, 1}) {
		t.Errorf("%v, %v", b, err)
	}
	back, err := Decode(b)
	if err != api.OK || !Same(back, end) {
		t.Errorf("%v, %v", back, err)
	}
	if back, err = Decode(b[1:]); back != nil || err != api.ErrForm {
		t.Errorf("%v, %v", back, err)
	}
}
