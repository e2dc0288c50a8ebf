package mark

import (
	"bytes"
	"math/rand"
	"slices"
	"testing"

	"baldric/api"
)

// rising is a bag of so many rows.
func rising(rows int) api.Bag {
	b := make(api.Bag, rows)
	for i := range b {
		b[i] = [2]int{i * 3, 1 + i%api.MaxCount}
	}
	return b
}

// P9.3: markings and their bytes, the one way and the other.
func TestBytes(t *testing.T) {
	for _, x := range []struct {
		m api.Marking
		b []byte
	}{
		{nil, []byte{0}},
		{api.Marking{}, []byte{0}},
		{api.Marking{nil}, []byte{1, 0, 0}},
		{api.Marking{nil, {}}, []byte{2, 0, 0, 0, 0}},
		{api.Marking{{{0, 1}}}, []byte{1, 0, 1, 0, 0, 0, 0, 0, 0, 0, 1}},
		{api.Marking{{{0, api.MaxCount}}}, []byte{1, 0, 1, 0, 0, 0, 0, 0, 0x10, 0, 0}},
		{api.Marking{{{0, api.MaxCount - 1}}}, []byte{1, 0, 1, 0, 0, 0, 0, 0, 0x0f, 0xff, 0xff}},
		{api.Marking{{{1<<32 - 1, 1}}}, []byte{1, 0, 1, 0xff, 0xff, 0xff, 0xff, 0, 0, 0, 1}},
		{api.Marking{{{0x01020304, 0x00050607}}}, []byte{1, 0, 1, 1, 2, 3, 4, 0, 5, 6, 7}},
		{api.Marking{nil, {{1, 2}, {0x80000000, 4}}, {{5, 256}}}, []byte{
			3, 0, 0, 0, 2, 0, 0, 0, 1, 0, 0, 0, 2, 0x80, 0, 0, 0, 0, 0, 0, 4, 0, 1, 0, 0, 0, 5, 0, 0, 1, 0,
		}},
		{make(api.Marking, 64), append([]byte{64}, make([]byte, 128)...)},
	} {
		if b, err := Encode(x.m); err != api.OK || !bytes.Equal(b, x.b) {
			t.Errorf("%v: %v, %v", x.m, b, err)
		}
		if m, err := Decode(x.b); err != api.OK || !alike(m, x.m) {
			t.Errorf("%v: %v, %v", x.b, m, err)
		}
	}
}

// P9.3: as many rows as there may be, and one more.
func TestManyRows(t *testing.T) {
	for _, rows := range []int{255, 256, 257, 65534, 65535} {
		m := api.Marking{nil, rising(rows), {{0, 1}}}
		b, err := Encode(m)
		if err != api.OK || len(b) != 1+2+2+8*rows+2+8 || int(b[3])<<8+int(b[4]) != rows {
			t.Fatalf("%d: %d bytes, %v", rows, len(b), err)
		}
		if back, err := Decode(b); err != api.OK || !alike(back, m) {
			t.Errorf("%d: %v", rows, err)
		}
		if m, err := Decode(b[:len(b)-1]); len(m) != 0 || err != api.ErrForm {
			t.Errorf("%d: %v", rows, err)
		}
	}
	for _, rows := range []int{65536, 65537, 1<<17 + 3} {
		for _, m := range []api.Marking{{rising(rows)}, {nil, rising(rows)}, {rising(rows), {{0, 1}}}} {
			if b, err := Encode(m); len(b) != 0 || err != api.ErrArg {
				t.Errorf("%d: %d bytes, %v", rows, len(b), err)
			}
		}
	}
}

// P9.3: what has no bytes.
func TestNotEncoded(t *testing.T) {
	l := []api.Marking{
		make(api.Marking, 65), make(api.Marking, 256), make(api.Marking, 257), make(api.Marking, 1000),
		{{{1 << 32, 1}}}, {{{0, 1}, {1 << 32, 1}}}, {{{1<<32 - 1, 1}, {1 << 32, 1}}}, {{{api.MaxInt, 1}}}, {{{1<<33 + 5, 1}}},
		{nil, {{0, 1}}, {{1<<32 + 1, 1}}}, {{{1 << 32, 1}}, nil},
	}
	for _, b := range wrongBags() {
		l = append(l, api.Marking{b}, api.Marking{nil, b}, api.Marking{b, {{0, 1}}})
	}
	for _, m := range l {
		if b, err := Encode(m); b != nil || err != api.ErrArg {
			t.Errorf("%v: %v, %v", m, b, err)
		}
	}
}

// P9.3: bytes that tell no marking.
func TestNotDecoded(t *testing.T) {
	l := [][]byte{
		nil, {}, {65}, {255}, {1}, {1, 0}, {0, 0}, {1, 0, 0, 0}, {2, 0, 0},
		append([]byte{65}, make([]byte, 130)...),
		append([]byte{255}, make([]byte, 510)...),
		{1, 0, 1}, {1, 0xff, 0xff}, {1, 0, 1, 0, 0, 0, 0, 0, 0, 0},
		{1, 0, 1, 0, 0, 0, 0, 0, 0, 0, 1, 0},
		// Counts of 0, and past the greatest.
		{1, 0, 1, 0, 0, 0, 0, 0, 0, 0, 0},
		{1, 0, 1, 0, 0, 0, 0, 0, 0x10, 0, 1},
		{1, 0, 1, 0, 0, 0, 0, 0x80, 0, 0, 1},
		{1, 0, 1, 0, 0, 0, 0, 0xff, 0xff, 0xff, 0xff},
		{1, 0, 2, 0, 0, 0, 0, 0, 0, 0, 1, 0, 0, 0, 1, 0, 0, 0, 0},
		// Rows that do not rise.
		{1, 0, 2, 0, 0, 0, 1, 0, 0, 0, 1, 0, 0, 0, 1, 0, 0, 0, 1},
		{1, 0, 2, 0, 0, 0, 1, 0, 0, 0, 1, 0, 0, 0, 0, 0, 0, 0, 1},
		{2, 0, 0, 0, 2, 0x80, 0, 0, 0, 0, 0, 0, 1, 0, 0, 0, 0, 0, 0, 0, 1},
		// The second bag is short, or too long.
		{2, 0, 1, 0, 0, 0, 0, 0, 0, 0, 1, 0},
		{2, 0, 1, 0, 0, 0, 0, 0, 0, 0, 1, 0, 1},
		{2, 0, 1, 0, 0, 0, 0, 0, 0, 0, 1, 0, 0, 0},
		// What is behind a bag that is too long would be rows of it.
		{2, 0, 2, 0, 0, 0, 0, 0, 0, 0, 1, 0, 0},
		bytes.Repeat([]byte{0xff}, 1<<16), bytes.Repeat([]byte{64}, 1<<16), make([]byte, 1<<16), []byte("{a: 0*2}"),
	}
	for _, b := range l {
		if m, err := Decode(b); m != nil || err != api.ErrForm {
			t.Errorf("%v: %v, %v", b[:min(len(b), 40)], m, err)
		}
	}
}

// P9.3: one byte short, one too many, and one that is another, at each part.
func TestDecodeNearBytes(t *testing.T) {
	r := made{rand.New(rand.NewSource(93))}
	var s second
	for range 300 {
		ahead, err := Encode(r.tame(r.Intn(5)))
		if err != api.OK {
			t.Fatal(err)
		}
		for at := range len(ahead) + 1 {
			if at < len(ahead) {
				if m, err := Decode(ahead[:at]); m != nil || err != api.ErrForm {
					t.Fatalf("%v: %v, %v", ahead[:at], m, err)
				}
				agreeBytes(t, s, slices.Delete(slices.Clone(ahead), at, at+1))
				for _, c := range []byte{0, 1, 2, 3, 64, 65, 255, byte(r.Intn(256))} {
					b := slices.Clone(ahead)
					b[at] = c
					agreeBytes(t, s, b)
				}
			}
			agreeBytes(t, s, slices.Insert(slices.Clone(ahead), at, pick(r.Rand, byte(0), byte(0), byte(1), byte(r.Intn(256)))))
		}
	}
}

// agreeBytes holds Decode against the second telling, and what it takes against Encode.
func agreeBytes(t *testing.T, s second, b []byte) bool {
	t.Helper()
	m, err := Decode(b)
	want, wrong := s.decode(b)
	if err != wrong || !alike(m, want) || err != api.OK && m != nil {
		t.Fatalf("%v: %v, %v", b, m, err)
	}
	if err != api.OK {
		return false
	}
	if back, err := Encode(m); err != api.OK || !bytes.Equal(back, b) {
		t.Fatalf("%v: %v, %v", b, back, err)
	}
	return true
}

// P9.3: all bytes up to a length, of an alphabet in which there are rows.
func TestDecodeShortBytes(t *testing.T) {
	var s second
	taken := 0
	for length := range 8 {
		b := make([]byte, length)
		for {
			if agreeBytes(t, s, b) {
				taken++
			}
			at := length - 1
			for ; at >= 0 && b[at] == 3; at-- {
				b[at] = 0
			}
			if at < 0 {
				break
			}
			b[at]++
		}
	}
	// Only bags without rows are so short.
	if taken != 4 {
		t.Errorf("%d", taken)
	}
	r := rand.New(rand.NewSource(94))
	for taken = 0; taken < 2000; {
		b := []byte{byte(r.Intn(3))}
		for range b[0] {
			rows := r.Intn(3)
			b = append(b, 0, byte(rows))
			for range rows {
				b = append(b, 0, 0, 0, byte(r.Intn(3)), 0, 0, 0, byte(r.Intn(3)))
			}
		}
		if agreeBytes(t, s, b) {
			taken++
		}
	}
}

// P9.3, P9.6: what is encoded is decoded as it was.
func TestEncodedAndDecoded(t *testing.T) {
	r := made{rand.New(rand.NewSource(96))}
	var s second
	taken := 0
	for range 20000 {
		m := pick(r.Rand, r.marking, r.tame)(pick(r.Rand, 0, 1, 2, 3, 4, 5, 63, 64, 65))
		b, err := Encode(m)
		want, wrong := s.encode(m)
		if err != wrong || !bytes.Equal(b, want) || err != api.OK && b != nil {
			t.Fatalf("%v: %v, %v", m, b, err)
		}
		if err != api.OK {
			continue
		}
		taken++
		if back, err := Decode(b); err != api.OK || !alike(back, m) || !Same(back, m) {
			t.Fatalf("%v: %v, %v", m, back, err)
		}
	}
	if taken < 5000 {
		t.Errorf("%d", taken)
	}
}

// few is all markings of up to two places, of the members 0 and 1, with at most 2 of each, and some of three.
func few() []api.Marking {
	var bags []api.Bag
	for zeroes := range 3 {
		for ones := range 3 {
			b := api.Bag{}
			if zeroes > 0 {
				b = append(b, [2]int{0, zeroes})
			}
			if ones > 0 {
				b = append(b, [2]int{1, ones})
			}
			bags = append(bags, b)
		}
	}
	l := []api.Marking{{}}
	for _, a := range bags {
		l = append(l, api.Marking{a})
		for _, b := range bags {
			l = append(l, api.Marking{a, b})
		}
		l = append(l, api.Marking{nil, a, nil}, api.Marking{nil, nil, slices.Concat(a, api.Bag{{256, 1}})})
	}
	return l
}

// P9.6: unlike markings have unlike bytes.
func TestUnlikeBytes(t *testing.T) {
	seen := map[string]api.Marking{}
	for _, m := range few() {
		b, err := Encode(m)
		if err != api.OK {
			t.Fatal(err)
		}
		if other, is := seen[string(b)]; is && !Same(other, m) {
			t.Errorf("%v, %v: %v", m, other, b)
		}
		seen[string(b)] = m
	}
	if len(seen) != len(few()) {
		t.Errorf("%d of %d", len(seen), len(few()))
	}
}

// P9.7: Compare orders all of few; what is Within another one is not more.
func TestOrder(t *testing.T) {
	l := few()
	for _, a := range l {
		for _, b := range l {
			by := Compare(a, b)
			if by != -Compare(b, a) || (by == 0) != Same(a, b) || by < -1 || by > 1 {
				t.Fatalf("%v, %v: %d", a, b, by)
			}
			if Within(a, b) && by > 0 {
				t.Fatalf("%v is within %v: %d", a, b, by)
			}
			if by > 0 {
				continue
			}
			for _, c := range l {
				if Compare(b, c) <= 0 && Compare(a, c) > 0 {
					t.Fatalf("%v, %v, %v", a, b, c)
				}
			}
		}
	}
	r := made{rand.New(rand.NewSource(97))}
	for range 5000 {
		places := 1 + r.Intn(4)
		a, b, c := r.tame(places), r.tame(places), r.tame(places)
		both := make(api.Marking, places)
		for i := range both {
			both[i] = rowsOf(a[i], b[i])
		}
		if !Within(a, both) || Compare(a, both) > 0 || !Within(b, both) || Compare(both, b) < 0 {
			t.Fatalf("%v, %v", a, b)
		}
		if Compare(a, b) <= 0 && Compare(b, c) <= 0 && Compare(a, c) > 0 {
			t.Fatalf("%v, %v, %v", a, b, c)
		}
		if Compare(a, b) == 0 != Same(a, b) || Compare(a, b) != -Compare(b, a) {
			t.Fatalf("%v, %v", a, b)
		}
	}
}

// rowsOf is of each member below 4 as many as in that of both which has more.
func rowsOf(a, b api.Bag) api.Bag {
	var l api.Bag
	for member := range 4 {
		most := 0
		for _, row := range slices.Concat(a, b) {
			if row[0] == member {
				most = max(most, row[1])
			}
		}
		if most > 0 {
			l = append(l, [2]int{member, most})
		}
	}
	return l
}
