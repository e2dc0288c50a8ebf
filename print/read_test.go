package print

import (
	"math/rand"
	"reflect"
	"strings"
	"testing"

	"baldric/api"
	"baldric/expr"
	"baldric/parse"
)

// read is the net of a text, which must be one.
func read(t *testing.T, s string) api.Net {
	t.Helper()
	n, at, err := parse.Text(s)
	if err != api.OK {
		t.Fatalf("%v at %d of\n%s", err, at, s)
	}
	return n
}

// again asks that what was read of a text is written, read and written as it was, and tells how it is written.
func again(t *testing.T, s string) string {
	t.Helper()
	n := read(t, s)
	text := Text(n)
	if len(text) > api.MaxText {
		return text
	}
	m := read(t, text)
	if !Same(n, m) || !reflect.DeepEqual(n, m) {
		t.Fatalf("%+v\nnot\n%+v\nof\n%s", m, n, s)
	}
	if got := Text(m); got != text {
		t.Fatalf("%s\nnot\n%s", got, text)
	}
	return text
}

// P7.5: what is written as the document says is read, and written as it was.
func TestWrittenTexts(t *testing.T) {
	const ahead, tail = "colour n = int 0 .. 3;\nplace a: n;\nplace b: n = 0*2;\n", "from a;\nto b;\n"
	for _, s := range []string{
		"", "colour c = int -9223372036854775807 .. 9223372036854775807;\n", "colour c = int 7 .. -7;\n",
		"colour c = enum c;\n", "colour c = enum red, blue, red;\n", "colour p = pair n, n;\ncolour q = pair p, n;\n",
		"place c: n;\n", "place c: n = 0*1;\n", "place c: n = 0*1048576, 7*1, 9223372036854775807*3;\n",
		"task t {\n}\n", "task t {\n}\ntask u {\n}\n", "task n {\n\tvar n: n;\n\tin a(n);\n}\n",
	} {
		text := ahead + s + tail
		if strings.HasPrefix(s, "colour") {
			text = "colour n = int 0 .. 3;\n" + s + strings.TrimPrefix(ahead, "colour n = int 0 .. 3;\n") + tail
		}
		if got := again(t, text); got != text {
			t.Errorf("%s\nnot\n%s", got, text)
		}
	}
	for _, s := range []string{
		"when 0", "when x", "when -1", "when !x && y", "when if(x, y, 1) == 2 || 1 < x - (y - -x)", "join xor", "join or", "split xor", "split or",
		"join xor;\n\tsplit or", "in a(x)", "in a(1);\n\tin a(1)", "out b((x + 1) * 2)", "cancel b", "cancel b;\n\tcancel a;\n\tcancel b",
		"after 1", "after 9223372036854775807", "many 0, 0, 1", "many 1, 0, 0", "many 0, 1, 0", "many 3, 2, 9223372036854775807",
		"when y;\n\tjoin or;\n\tsplit or;\n\tin b(x);\n\tout a(y);\n\tcancel a;\n\tafter 2;\n\tmany 1, 2, 1",
	} {
		text := ahead + "task t {\n\tvar x: n;\n\tvar y: n;\n\t" + s + ";\n}\n" + tail
		if got := again(t, text); got != text {
			t.Errorf("%s\nnot\n%s", got, text)
		}
	}
}

// P7.5: what is laid out in another way is written as the document says.
func TestOtherTexts(t *testing.T) {
	const want = "colour n = int -1 .. 3;\ncolour c = enum red, blue;\ncolour p = pair c, n;\nplace a: n = 0*3, 1*1, 2*1;\nplace b: p;\n" +
		"task t {\n\tvar x: n;\n\tvar y: p;\n\twhen x < 3;\n\tjoin or;\n\tin a(x);\n\tin a(0 - (1 - 2));\n\tout b(-y);\n\tcancel b;\n}\ntask u {\n}\nfrom a;\nto b;\n"
	const s = `colour n = int -1..3; place a: n = 2, 0*2, 1, 0, 3*0; colour c = enum red,blue;
		task u2 { split and; join and; when (1); after 0; many 0,0,0; } # nothing
		colour p = pair c, n; place b: p = 7*0;
		task t { out b(-0); cancel b; join or; in a(1); } from a; to b;`
	if got := again(t, s); !strings.Contains(got, "place a: n = 0*3, 1*1, 2*1;\nplace b: p;\ntask u2 {\n}\ntask t {\n\tjoin or;\n\tin a(1);\n\tout b(-0);\n\tcancel b;\n}\n") {
		t.Error(got)
	}
	const other = `colour n = int - 1 .. 3; colour c = enum red, blue; colour p = pair c, n; place a: n = 2, 1*1, 0*3; place b: p;
		task t { cancel b; split and; var x: n; in a((x)); when ((x) < (3)); join or; in a((0) - (1 - 2)); var y: p; out b((-y)); } task u { when 1; } from a; to b;`
	if got := again(t, other); got != want {
		t.Errorf("%s\nnot\n%s", got, want)
	}
}

// P7.5
func TestMadeTexts(t *testing.T) {
	r := rand.New(rand.NewSource(76))
	clauses, long := 0, 0
	for range 4000 {
		m := author{Rand: r}
		text := again(t, m.text())
		clauses += strings.Count(text, "\t")
		if len(text) > api.MaxText {
			long++
		}
	}
	if clauses < 10000 || long > 40 {
		t.Errorf("%d clauses, %d texts that are too long", clauses, long)
	}
}

// P7.5: expressions whose parts stand as deep as may be are read again: no bracket is written that was not there.
func TestDeepTexts(t *testing.T) {
	r := rand.New(rand.NewSource(77))
	around := [][2]string{
		{"-", ""}, {"!", ""}, {"-(", ")"}, {"(", ")"}, {"x - (", ")"}, {"x || ", ""}, {"(", ") * 2"}, {"if(1, ", ", 2)"}, {"if(", ", 1, 2)"}, {"if(1, 2, ", ")"}, {"x / -(", ")"}, {"1 + ", " * 2"}, {"(", ") < x"},
	}
	text := func(e string) string {
		return "colour n = int 0 .. 3; place a: n; task t { var x: n; when " + e + "; in a(" + e + "); } from a; to a;"
	}
	is := func(e string) bool {
		_, _, err := parse.Text(text(e))
		return err == api.OK
	}
	deepest := 0
	for range 1500 {
		e := pick(r, "x", "1", "x - 1", "!x", "if(x, 1, 2)")
		few := around[:1+r.Intn(len(around))]
		for {
			w := pick(r, few...)
			if !is(w[0] + e + w[1]) {
				break
			}
			e = w[0] + e + w[1]
		}
		again(t, text(e))
		deepest = max(deepest, expr.Depth(read(t, text(e)).Tasks[0].Guard))
	}
	// What stands ahead of a sign is no deeper than the whole, so an expression may have more parts within one another than that.
	if deepest < api.MaxDeep {
		t.Errorf("%d deep", deepest)
	}
}
