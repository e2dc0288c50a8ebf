package print

import (
	"fmt"
	"math/rand"
	"reflect"
	"runtime"
	"slices"
	"strings"
	"testing"
	"unsafe"

	"baldric/api"
)

// parts is the numbers, texts and lists in what v is, in all depths, and where they stand.
func parts(v reflect.Value, where string) ([]reflect.Value, []string) {
	var l []reflect.Value
	var at []string
	deeper := func(v reflect.Value, where string) {
		more, places := parts(v, where)
		l, at = append(l, more...), append(at, places...)
	}
	if v.Kind() == reflect.Struct {
		for i := range v.NumField() {
			deeper(v.Field(i), where+"."+v.Type().Field(i).Name)
		}
		return l, at
	}
	if v.Kind() != reflect.Array {
		l, at = append(l, v), append(at, where)
	}
	if v.Kind() == reflect.Array || v.Kind() == reflect.Slice {
		for i := range v.Len() {
			deeper(v.Index(i), fmt.Sprintf("%s[%d]", where, i))
		}
	}
	return l, at
}

func partsOf(n *api.Net) []reflect.Value {
	l, _ := parts(reflect.ValueOf(n).Elem(), "")
	return l
}

// others is values that a part may have, and has not.
func others(v reflect.Value) []reflect.Value {
	switch v.Kind() {
	case reflect.Int:
		l := []reflect.Value{reflect.ValueOf(int(v.Int()) + 1), reflect.ValueOf(int(v.Int()) - 1), reflect.ValueOf(int(v.Int()) ^ 1<<40)}
		if v.Int() != 0 {
			l = append(l, reflect.ValueOf(0))
		}
		return l
	case reflect.String:
		s := v.String()
		return []reflect.Value{reflect.ValueOf(s + "_"), reflect.ValueOf(s[1:]), reflect.ValueOf(strings.ToUpper(s))}
	}
	none := reflect.Zero(v.Type().Elem())
	empty := reflect.MakeSlice(v.Type(), 0, 0)
	l := []reflect.Value{reflect.Append(reflect.AppendSlice(empty, v), none)}
	if n := v.Len(); n > 0 {
		l = append(l, reflect.Append(reflect.AppendSlice(empty, v), v.Index(n-1)), v.Slice(0, n-1), v.Slice(1, n), empty)
	}
	if n := v.Len(); n > 1 && !reflect.DeepEqual(v.Index(0).Interface(), v.Index(1).Interface()) {
		l = append(l, reflect.AppendSlice(reflect.Append(empty, v.Index(1), v.Index(0)), v.Slice(2, n)))
	}
	return l
}

// P7.3
func TestSame(t *testing.T) {
	if a, b := whole(), whole(); !Same(a, b) || !Same(api.Net{}, api.Net{}) || Same(a, api.Net{}) || Same(api.Net{}, b) {
		t.Error("Same")
	}
}

// P7.3: nets that differ in one part alone, at each depth.
func TestSameOneOther(t *testing.T) {
	n := whole()
	_, at := parts(reflect.ValueOf(n), "")
	for _, s := range []string{".Colours[2].Lo", ".Colours[1].Names[1]", ".Places[1].First[1][1]", ".Tasks[0].Guard.Kids[2].Kids[0].Kids[1].Num", ".Tasks[0].Ins[1].Expr.Kids[0].Kids", ".Tasks[0].Vars[1].Colour", ".Tasks[0].Many[2]", ".Tasks[1].Cancel", ".To"} {
		if !slices.Contains(at, s) {
			t.Fatalf("%s is not in %q", s, at)
		}
	}
	for i := range at {
		m := whole()
		part := partsOf(&m)[i]
		for _, v := range others(part) {
			kept := reflect.New(part.Type()).Elem()
			kept.Set(part)
			part.Set(v.Convert(part.Type()))
			if Same(n, m) || Same(m, n) || !Same(m, m) {
				t.Errorf("%s: %v is told as %v", at[i], v, kept)
			}
			part.Set(kept)
		}
		if !Same(n, m) {
			t.Errorf("%s: changed", at[i])
		}
	}
}

// P7.3: two nets of any parts are alike where all that is in them is.
func TestSameAny(t *testing.T) {
	r := rand.New(rand.NewSource(73))
	differ := 0
	for range 3000 {
		seed := r.Int63()
		a, b := loose{rand.New(rand.NewSource(seed))}.net(), loose{rand.New(rand.NewSource(seed))}.net()
		if !Same(a, b) || !Same(b, a) {
			t.Fatalf("%+v is not %+v", a, b)
		}
		part := pick(r, partsOf(&b)...)
		for _, v := range []reflect.Value{reflect.Zero(part.Type()), pick(r, partsOf(&b)...)} {
			if v.Type().ConvertibleTo(part.Type()) && v.Kind() == part.Kind() {
				part.Set(v.Convert(part.Type()))
			}
		}
		want := reflect.DeepEqual(a, b)
		if Same(a, b) != want || Same(b, a) != want {
			t.Fatalf("%v: %+v and %+v", want, a, b)
		}
		if !want {
			differ++
		}
	}
	if differ < 500 {
		t.Errorf("%d differ", differ)
	}
}

// hollow makes each list in n that is none an empty one.
func hollow(n *api.Net) int {
	count := 0
	for _, v := range partsOf(n) {
		if v.Kind() == reflect.Slice && v.IsNil() {
			v.Set(reflect.MakeSlice(v.Type(), 0, 3))
			count++
		}
	}
	return count
}

// P7.3, P7.1, W5: rows that are none and empty ones are alike.
func TestEmptyRows(t *testing.T) {
	small := func() api.Net {
		return api.Net{Colours: make([]api.Colour, 1), Places: make([]api.Place, 1), Tasks: []api.Task{{Ins: make([]api.Arc, 1), Outs: make([]api.Arc, 1)}}}
	}
	nothing := func() api.Net { return api.Net{} }
	for _, each := range []func() api.Net{whole, small, nothing} {
		a, b := each(), each()
		if hollow(&b) == 0 || reflect.DeepEqual(a, b) {
			t.Fatal("no list is empty")
		}
		if !Same(a, b) || !Same(b, a) || !Same(a, Copy(b)) || !Same(Copy(a), b) || Text(a) != Text(b) {
			t.Errorf("%+v", b)
		}
		for k := range a.Tasks {
			if Task(a, k) != Task(b, k) || !slices.Equal(Clauses(a, k), Clauses(b, k)) {
				t.Errorf("%q", Clauses(b, k))
			}
		}
	}
}

// span is where memory begins and ends.
type span [2]uintptr

// spans is the memory that the texts and lists in n have, spare room too.
func spans(n api.Net) []span {
	var l []span
	for _, v := range partsOf(&n) {
		switch {
		case v.Kind() == reflect.String && v.Len() > 0:
			l = append(l, spanOf(v.String()))
		case v.Kind() == reflect.Slice && v.Cap() > 0:
			size := uintptr(v.Cap()) * v.Type().Elem().Size()
			l = append(l, span{v.Pointer(), v.Pointer() + size})
		}
	}
	return l
}

func spanOf(s string) span {
	at := uintptr(unsafe.Pointer(unsafe.StringData(s)))
	return span{at, at + uintptr(len(s))}
}

// meets tells whether a has memory of one of l.
func (a span) meets(l []span) bool {
	return slices.ContainsFunc(l, func(b span) bool { return a[0] < b[1] && b[0] < a[1] })
}

// P7.3, P7.4: a copy is the same, and has nothing together with what it was made of, nor within itself.
func TestCopy(t *testing.T) {
	r := rand.New(rand.NewSource(74))
	nets := []api.Net{{}, whole()}
	for range 500 {
		nets = append(nets, loose{r}.net())
	}
	for _, n := range nets {
		m := Copy(n)
		if !Same(n, m) || !reflect.DeepEqual(n, m) || Text(n) != Text(m) {
			t.Fatalf("%+v, not %+v", m, n)
		}
		also := Copy(n)
		own, foreign := spans(m), append(spans(n), spans(also)...)
		for i, a := range own {
			if a.meets(foreign) || a.meets(own[:i]) {
				t.Fatalf("%+v: shared", n)
			}
		}
		// What is not needed any more could be given out anew meanwhile.
		runtime.KeepAlive([]api.Net{n, m, also})
	}
}

// P7.3: what is written into a copy, or into what it was made of, does not change the other.
func TestCopyWrittenInto(t *testing.T) {
	want := whole()
	for i := range partsOf(&want) {
		n := whole()
		m := Copy(n)
		for _, written := range []struct{ into, other *api.Net }{{&m, &n}, {&n, &m}} {
			part := partsOf(written.into)[i]
			for _, v := range others(part) {
				part.Set(v.Convert(part.Type()))
			}
			if !reflect.DeepEqual(*written.other, want) {
				t.Fatalf("part %d: %+v", i, *written.other)
			}
			if written.into == &m {
				m = Copy(n)
			}
		}
	}
}

// roomy gives each list of n spare room, in which there are rows.
func roomy(n *api.Net) {
	for _, v := range partsOf(n) {
		if v.Kind() != reflect.Slice {
			continue
		}
		row := reflect.New(v.Type().Elem()).Elem()
		l, _ := parts(row, "")
		for _, part := range l {
			switch part.Kind() {
			case reflect.Int:
				part.SetInt(77)
			case reflect.String:
				part.SetString("spare")
			}
		}
		more := reflect.Append(v.Slice3(0, v.Len(), v.Len()), row, row)
		v.Set(more.Slice(0, v.Len()))
	}
}

// room is all that is in the lists of n, and in their spare room.
func room(n api.Net) string {
	var b strings.Builder
	for _, v := range partsOf(&n) {
		if v.Kind() == reflect.Slice {
			v = v.Slice(0, v.Cap())
		}
		fmt.Fprintf(&b, "%+v\n", v)
	}
	return b.String()
}

// P7.4
func TestNothingIsChanged(t *testing.T) {
	r := rand.New(rand.NewSource(75))
	for i := range 500 {
		a, b := whole(), whole()
		if i > 0 {
			a, b = loose{r}.net(), loose{r}.net()
		}
		roomy(&a)
		roomy(&b)
		ahead, behind := room(a), room(b)
		if i == 0 && strings.Count(ahead, "spare") < 5 {
			t.Fatal(ahead)
		}
		Text(a)
		Same(a, b)
		m := Copy(a)
		for k := range a.Tasks {
			Task(a, k)
			l := Clauses(a, k)
			clear(l[:cap(l)])
		}
		for _, v := range partsOf(&m) {
			if v.Kind() == reflect.Slice {
				v.Slice(0, v.Cap()).Clear()
			}
		}
		if room(a) != ahead || room(b) != behind {
			t.Fatalf("%s\nnot\n%s", room(a), ahead)
		}
	}
}

// P7.4: texts have memory of their own, and lists of them that are written into change no later one.
func TestTextsAreNew(t *testing.T) {
	n := whole()
	n.Colours[0].Name, n.Places[0].Name = strings.Clone("n"), strings.Clone("a")
	for k := range n.Tasks {
		l, again := Clauses(n, k), Clauses(n, k)
		var own []span
		for _, s := range append(slices.Concat(l, again), Task(n, k), Task(n, k), Text(n), Text(n)) {
			a := spanOf(s)
			if a.meets(own) || a.meets(spans(n)) {
				t.Fatalf("%q: shared", s)
			}
			own = append(own, a)
		}
		clear(l[:cap(l)])
		if !slices.Equal(again, speltClauses(n, n.Tasks[k])) || !slices.Equal(Clauses(n, k), again) {
			t.Errorf("%q", again)
		}
	}
	text, task, clauses, copied := Text(n), Task(n, 0), Clauses(n, 0), Copy(n)
	for _, v := range partsOf(&n) {
		v.SetZero()
	}
	m := whole()
	if text != spelt(m) || task != speltTask(m, 0) || !slices.Equal(clauses, speltClauses(m, m.Tasks[0])) || !Same(copied, m) {
		t.Error("kept")
	}
}
