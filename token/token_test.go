package token

import (
	"math/big"
	"math/rand"
	"regexp"
	"slices"
	"strconv"
	"strings"
	"testing"
	"unsafe"

	"baldric/api"
)

// most is the greatest int, in decimals.
const most = "9223372036854775807"

func words() []string {
	return strings.Fields("colour place task var when join split in out cancel after many from to int enum pair and xor or if")
}

func allSigns() []string {
	return strings.Fields("; : = , ( ) { } .. * + - / % == != < <= && || !")
}

func named(s string, at int) api.Token    { return api.Token{Kind: api.TokName, Text: s, At: at} }
func numbered(s string, at int) api.Token { return api.Token{Kind: api.TokNumber, Text: s, At: at} }
func signed(s string, at int) api.Token   { return api.Token{Kind: api.TokSign, Text: s, At: at} }

// texts is a list of tokens of which the texts alone are said.
func texts(l ...string) []api.Token {
	var out []api.Token
	for _, s := range l {
		out = append(out, api.Token{Text: s})
	}
	return out
}

// unplaced is l without places.
func unplaced(l []api.Token) []api.Token {
	out := slices.Clone(l)
	for i := range out {
		out[i].At = 0
	}
	return out
}

// pieces are the document's words on Lex, as patterns: gaps, names, numbers, signs; the longest sign stands first.
func pieces() *regexp.Regexp {
	return regexp.MustCompile(`^(?:([ \t\n\r]+|#[^\n]*)|([A-Za-z][A-Za-z0-9_]*)|([0-9]+)([A-Za-z_]?)|(\.\.|==|!=|<=|&&|\|\||[;:=,(){}*+\-/%<!]))`)
}

// cut is Lex by patterns, of texts that are not too long.
func cut(p *regexp.Regexp, s string) ([]api.Token, int, api.Errno) {
	var l []api.Token
	for at := 0; at < len(s); {
		m := p.FindStringSubmatch(s[at:])
		switch {
		case m == nil:
			return nil, at, api.ErrForm
		case m[2] != "" && len(m[2]) > api.MaxName:
			return nil, at, api.ErrFull
		case m[2] != "":
			l = append(l, named(m[2], at))
		case m[3] != "":
			if e := wrong(m[3], m[4]); e != api.OK {
				return nil, at, e
			}
			l = append(l, numbered(m[3], at))
		case m[5] != "":
			l = append(l, signed(m[5], at))
		}
		at += len(m[0])
	}
	return l, len(s), api.OK
}

// wrong is what is wrong with digits, and what stands behind them.
func wrong(digits, behind string) api.Errno {
	if len(digits) > 1 && strings.HasPrefix(digits, "0") || behind != "" {
		return api.ErrForm
	}
	if n, _ := new(big.Int).SetString(digits, 10); !n.IsInt64() {
		return api.ErrOver
	}
	return api.OK
}

// short calls with every text of at most so many bytes out of these.
func short(of string, most int, call func(string)) {
	var grow func(string)
	grow = func(s string) {
		call(s)
		if len(s) < most {
			for i := range len(of) {
				grow(s + of[i:i+1])
			}
		}
	}
	grow("")
}

// mixed is a text of so many pieces, of which some are none.
func mixed(r *rand.Rand, n int) string {
	l := append(allSigns(), words()...)
	l = append(l, "a", "Z9", "x_1", "_", "A__", "0", "1", "10", most, " ", " ", "  ", "\t", "\r", "\n", "\r\n", "#", "# a\n", "#\n", "# é$\n")
	odd := []string{"00", "01", "1a", "1_", "9223372036854775808", ".", "&", "|", ">", "$", "é", "\x00", "\v", strings.Repeat("n", api.MaxName+1)}
	var b strings.Builder
	for range n {
		if r.Intn(40) == 0 {
			b.WriteString(odd[r.Intn(len(odd))])
		} else {
			b.WriteString(l[r.Intn(len(l))])
			b.WriteString(strings.Repeat(" ", r.Intn(2)))
		}
	}
	return b.String()
}

// P5.1
func TestNumber(t *testing.T) {
	for s, want := range map[string]int{"0": 0, "1": 1, "9": 9, "10": 10, "42": 42, "1000000007": 1000000007, "4294967296": 1 << 32, "9223372036854775806": api.MaxInt - 1, most: api.MaxInt} {
		if n, is := Number(s); n != want || !is {
			t.Errorf("Number(%q): %d, %v", s, n, is)
		}
	}
	none := []string{
		"", " ", "00", "01", "042", "007", "0" + most, "-0", "-1", "+0", "+1", " 1", "1 ", "1\n", "1 2", "1_0", "_1", "0x1", "0b1", "0o7",
		"1a", "a1", "a", "1.0", "1.", ".1", "1e3", "1,0", "1\x00", "\x001", "\x00", "١", "1é", "\xff", "/", ":",
		"9223372036854775808", "9223372036854775810", "9999999999999999999", "10000000000000000000", "18446744073709551615", "18446744073709551616",
		"18446744073709551617", "36893488147419103233", "99999999999999999999", "340282366920938463463374607431768211457",
		strings.Repeat("1", 100), "1" + strings.Repeat("0", 1<<16), strings.Repeat("0", 1<<16), strings.Repeat("9", 1<<16) + "a",
	}
	for _, s := range none {
		if n, is := Number(s); n != 0 || is {
			t.Errorf("Number(%.40q): %d, %v", s, n, is)
		}
	}
}

// P5.1
func TestNumberOfBytes(t *testing.T) {
	for i := range 1 << 16 {
		s := string([]byte{byte(i >> 8), byte(i)})
		for _, s := range []string{s, s[1:], "1" + s} {
			n, err := strconv.Atoi(s)
			want := err == nil && strconv.Itoa(n) == s && n >= 0
			if !want {
				n = 0
			}
			if got, is := Number(s); got != n || is != want {
				t.Fatalf("Number(%q): %d, %v", s, got, is)
			}
		}
	}
}

// P5.1
func TestNumberNearTheGreatest(t *testing.T) {
	top := new(big.Int).SetUint64(api.MaxInt)
	for i := int64(-50); i <= 50; i++ {
		n := new(big.Int).Add(top, big.NewInt(i))
		got, is := Number(n.String())
		if is != n.IsInt64() || is && int64(got) != n.Int64() || !is && got != 0 {
			t.Errorf("Number(%v): %d, %v", n, got, is)
		}
	}
}

// P5.1
func TestWord(t *testing.T) {
	if len(words()) != 21 {
		t.Fatal("21 words are listed")
	}
	var near []string
	for _, s := range words() {
		if !Word(s) {
			t.Errorf("Word(%q)", s)
		}
		near = append(near, s[1:], s[:len(s)-1], s+s, s+" ", " "+s, s+"\n", s+"\x00", s+"_", s+"1", s+"s", strings.ToUpper(s), strings.ToUpper(s[:1])+s[1:])
	}
	near = append(near, "", " ", "a", "net", "case", "color", "guard", "else", "then", "not", "all", "one", "some", "true", "false", "bool", "string", "1", ";", "==", "\xff", strings.Join(words(), " "))
	for _, s := range near {
		if Word(s) != slices.Contains(words(), s) {
			t.Errorf("Word(%q): %v", s, Word(s))
		}
	}
}

// P5.2
func TestLexTokens(t *testing.T) {
	for s, want := range map[string][]api.Token{
		"":                             nil,
		" ":                            nil,
		" \t\r\n \n":                   nil,
		"#":                            nil,
		"# a $ é \x00 01":              nil,
		"# a\n":                        nil,
		"##\n#\n\n# #":                 nil,
		"a":                            {named("a", 0)},
		"a_":                           {named("a_", 0)},
		"Z9_z":                         {named("Z9_z", 0)},
		"  if":                         {named("if", 2)},
		"colour":                       {named("colour", 0)},
		"0":                            {numbered("0", 0)},
		"10":                           {numbered("10", 0)},
		most:                           {numbered(most, 0)},
		"0 0":                          {numbered("0", 0), numbered("0", 2)},
		"0 1":                          {numbered("0", 0), numbered("1", 2)},
		"0#1\n1":                       {numbered("0", 0), numbered("1", 4)},
		"1#a\nb":                       {numbered("1", 0), named("b", 4)},
		"a#b\nc#d":                     {named("a", 0), named("c", 4)},
		"#a\rb\nc":                     {named("c", 5)},
		"a\rb\tc\nd e":                 {named("a", 0), named("b", 2), named("c", 4), named("d", 6), named("e", 8)},
		"a1 1":                         {named("a1", 0), numbered("1", 3)},
		"a<=1..2 # x":                  {named("a", 0), signed("<=", 1), numbered("1", 3), signed("..", 4), numbered("2", 6)},
		"0..0":                         {numbered("0", 0), signed("..", 1), numbered("0", 3)},
		"1....2":                       {numbered("1", 0), signed("..", 1), signed("..", 3), numbered("2", 5)},
		"-1":                           {signed("-", 0), numbered("1", 1)},
		"- -1":                         {signed("-", 0), signed("-", 2), numbered("1", 3)},
		"-a-b":                         {signed("-", 0), named("a", 1), signed("-", 2), named("b", 3)},
		"===":                          {signed("==", 0), signed("=", 2)},
		"= ==":                         {signed("=", 0), signed("==", 2)},
		"====":                         {signed("==", 0), signed("==", 2)},
		"<==":                          {signed("<=", 0), signed("=", 2)},
		"<<=":                          {signed("<", 0), signed("<=", 1)},
		"< =":                          {signed("<", 0), signed("=", 2)},
		"<#\n=":                        {signed("<", 0), signed("=", 3)},
		"!==":                          {signed("!=", 0), signed("=", 2)},
		"!!=":                          {signed("!", 0), signed("!=", 1)},
		"=!=":                          {signed("=", 0), signed("!=", 1)},
		"=<":                           {signed("=", 0), signed("<", 1)},
		"&&&&":                         {signed("&&", 0), signed("&&", 2)},
		"||!":                          {signed("||", 0), signed("!", 2)},
		"(){}":                         {signed("(", 0), signed(")", 1), signed("{", 2), signed("}", 3)},
		"in a(0);":                     {named("in", 0), named("a", 3), signed("(", 4), numbered("0", 5), signed(")", 6), signed(";", 7)},
		"place b: n = 0*2,1;":          {named("place", 0), named("b", 6), signed(":", 7), named("n", 9), signed("=", 11), numbered("0", 13), signed("*", 14), numbered("2", 15), signed(",", 16), numbered("1", 17), signed(";", 18)},
		"x%2==1&&!y||z/3!=-4":          {named("x", 0), signed("%", 1), numbered("2", 2), signed("==", 3), numbered("1", 5), signed("&&", 6), signed("!", 8), named("y", 9), signed("||", 10), named("z", 12), signed("/", 13), numbered("3", 14), signed("!=", 15), signed("-", 17), numbered("4", 18)},
		strings.Repeat("a", 32):        {named(strings.Repeat("a", 32), 0)},
		"b" + strings.Repeat("_9", 15): {named("b"+strings.Repeat("_9", 15), 0)},
	} {
		l, at, e := Lex(s)
		if !slices.Equal(l, want) || at != len(s) || e != api.OK {
			t.Errorf("Lex(%q): %+v, %d, %v", s, l, at, e)
		}
	}
}

// P5.2
func TestLexFaults(t *testing.T) {
	long := "n" + strings.Repeat("_", api.MaxName)
	over := "9223372036854775808"
	for _, x := range []struct {
		s  string
		at int
		e  api.Errno
	}{
		{"$", 0, api.ErrForm}, {"a $", 2, api.ErrForm}, {"a$", 1, api.ErrForm}, {"_", 0, api.ErrForm}, {"_a", 0, api.ErrForm}, {" _1", 1, api.ErrForm},
		{".", 0, api.ErrForm}, {"...", 2, api.ErrForm}, {". .", 0, api.ErrForm}, {"1.2", 1, api.ErrForm}, {"1.", 1, api.ErrForm}, {"1...2", 3, api.ErrForm},
		{"&", 0, api.ErrForm}, {"&&&", 2, api.ErrForm}, {"& &", 0, api.ErrForm}, {"a&b", 1, api.ErrForm}, {"|", 0, api.ErrForm}, {"|||", 2, api.ErrForm}, {"&|", 0, api.ErrForm},
		{">", 0, api.ErrForm}, {"a>=b", 1, api.ErrForm}, {"<>", 1, api.ErrForm}, {"\"a\"", 0, api.ErrForm}, {"a'", 1, api.ErrForm}, {"^", 0, api.ErrForm}, {"[", 0, api.ErrForm}, {"]", 0, api.ErrForm},
		{"\x00", 0, api.ErrForm}, {"a\x00", 1, api.ErrForm}, {"1\x00", 1, api.ErrForm}, {"\v", 0, api.ErrForm}, {" \f", 1, api.ErrForm}, {"\x7f", 0, api.ErrForm},
		{"é", 0, api.ErrForm}, {"aé", 1, api.ErrForm}, {"1é", 1, api.ErrForm}, {"\u00a0", 0, api.ErrForm}, {"\u2028", 0, api.ErrForm}, {"\ufeffa", 0, api.ErrForm}, {"\xff", 0, api.ErrForm}, {"a \xc3", 2, api.ErrForm}, {"# é\né", 5, api.ErrForm}, {"١", 0, api.ErrForm},
		{"00", 0, api.ErrForm}, {"01", 0, api.ErrForm}, {"a 01", 2, api.ErrForm}, {"1..02", 3, api.ErrForm}, {"-01", 1, api.ErrForm}, {"0" + most, 0, api.ErrForm},
		{"1a", 0, api.ErrForm}, {"1_", 0, api.ErrForm}, {"0a", 0, api.ErrForm}, {"0_", 0, api.ErrForm}, {"0x1", 0, api.ErrForm}, {"a 12if", 2, api.ErrForm}, {"1_000", 0, api.ErrForm}, {"7Z", 0, api.ErrForm}, {"(1e3)", 1, api.ErrForm},
		{over, 0, api.ErrOver}, {"99999999999999999999", 0, api.ErrOver}, {"18446744073709551617", 0, api.ErrOver}, {"a = -" + over, 5, api.ErrOver}, {"1.." + over, 3, api.ErrOver}, {over + "..1", 0, api.ErrOver}, {over + "é", 0, api.ErrOver},
		{long, 0, api.ErrFull}, {" " + long, 1, api.ErrFull}, {"a(" + long + ")", 2, api.ErrFull}, {strings.Repeat("Z", api.MaxText), 0, api.ErrFull},
		// Of two faults the one that stands first in the text is told; of two of one place ErrForm.
		{"$ 01", 0, api.ErrForm}, {"01 $", 0, api.ErrForm}, {"a $ $", 2, api.ErrForm},
		{"$ " + over, 0, api.ErrForm}, {over + " $", 0, api.ErrOver}, {over + "$", 0, api.ErrOver}, {over + " 01", 0, api.ErrOver}, {"01 " + over, 0, api.ErrForm},
		{"a $ " + long, 2, api.ErrForm}, {"a " + long + " $", 2, api.ErrFull}, {long + "$", 0, api.ErrFull}, {"a " + long + " 01", 2, api.ErrFull}, {"a 01 " + long, 2, api.ErrForm},
		{over + " " + long, 0, api.ErrOver}, {long + " " + over, 0, api.ErrFull}, {"1" + long, 0, api.ErrForm}, {over + long, 0, api.ErrForm},
		{over + "a", 0, api.ErrForm}, {over + "_", 0, api.ErrForm}, {"0" + over, 0, api.ErrForm}, {"00a", 0, api.ErrForm}, {"01.", 0, api.ErrForm}, {"1a.", 0, api.ErrForm},
		{"# $\n 01", 5, api.ErrForm}, {"# " + long + "\n" + over, 36, api.ErrOver},
	} {
		l, at, e := Lex(x.s)
		if len(l) != 0 || at != x.at || e != x.e {
			t.Errorf("Lex(%.50q): %+v, %d, %v; not %d, %v", x.s, l, at, e, x.at, x.e)
		}
	}
}

// P5.2
func TestLexOfEachByte(t *testing.T) {
	const blanks, letters, digits = " \t\n\r", "abcdefghijklmnopqrstuvwxyzABCDEFGHIJKLMNOPQRSTUVWXYZ", "0123456789"
	for i := range 256 {
		s := string([]byte{byte(i)})
		var want []api.Token
		end, err := 1, api.OK
		switch {
		case strings.Contains(blanks+"#", s):
		case strings.Contains(letters, s):
			want = append(want, named(s, 0))
		case strings.Contains(digits, s):
			want = append(want, numbered(s, 0))
		case slices.Contains(allSigns(), s):
			want = append(want, signed(s, 0))
		default:
			end, err = 0, api.ErrForm
		}
		if l, at, e := Lex(s); !slices.Equal(l, want) || at != end || e != err {
			t.Errorf("Lex(%q): %+v, %d, %v", s, l, at, e)
		}
		// A comment takes any byte but the line feed.
		if l, at, e := Lex("#" + s + "$"); s != "\n" && (len(l) != 0 || at != 3 || e != api.OK) {
			t.Errorf("Lex of a comment with %q: %+v, %d, %v", s, l, at, e)
		}
	}
}

// P5.2
func TestLexOfEachSign(t *testing.T) {
	for _, a := range allSigns() {
		for s, at := range map[string]int{a: 0, " " + a + "\n": 1, a + "#": 0, "a" + a + "1": 1, "1" + a + "a": 1} {
			l, end, e := Lex(s)
			if !slices.Contains(l, signed(a, at)) || end != len(s) || e != api.OK {
				t.Errorf("Lex(%q): %+v, %d, %v", s, l, end, e)
			}
		}
		for _, b := range allSigns() {
			s := a + " " + b
			if l, _, e := Lex(s); e != api.OK || !slices.Equal(l, []api.Token{signed(a, 0), signed(b, len(a)+1)}) {
				t.Errorf("Lex(%q): %+v, %v", s, l, e)
			}
		}
	}
}

// P5.2
func TestLexOfLongTexts(t *testing.T) {
	full := strings.Repeat(";", api.MaxText)
	l, at, e := Lex(full)
	if len(l) != api.MaxText || at != api.MaxText || e != api.OK {
		t.Fatalf("%d tokens, %d, %v", len(l), at, e)
	}
	for i, x := range l {
		if x != signed(";", i) {
			t.Fatalf("%d: %+v", i, x)
		}
	}
	for _, s := range []string{strings.Repeat(" ", api.MaxText), strings.Repeat("#", api.MaxText), strings.Repeat("#\n", api.MaxText/2)} {
		if l, at, e := Lex(s); len(l) != 0 || at != api.MaxText || e != api.OK {
			t.Errorf("%.5q and so on: %d tokens, %d, %v", s, len(l), at, e)
		}
	}
	if l, at, e := Lex(full[1:] + "$"); len(l) != 0 || at != api.MaxText-1 || e != api.ErrForm {
		t.Errorf("a fault at the end: %d tokens, %d, %v", len(l), at, e)
	}
	if l, at, e := Lex(strings.Repeat("1", api.MaxText)); len(l) != 0 || at != 0 || e != api.ErrOver {
		t.Errorf("a number: %d tokens, %d, %v", len(l), at, e)
	}
	for _, s := range []string{full + ";", full + " ", full + "\n", "$" + full, "01 " + full, " $" + full, strings.Repeat(" ", api.MaxText+1), strings.Repeat("#", api.MaxText+1), strings.Repeat("9", api.MaxText+1), strings.Repeat("\x00", 1<<20)} {
		if l, at, e := Lex(s); len(l) != 0 || at != 0 || e != api.ErrFull {
			t.Errorf("%d bytes: %d tokens, %d, %v", len(s), len(l), at, e)
		}
	}
}

// P5.2
func TestLexOfNamesByLength(t *testing.T) {
	for n := 1; n <= 3*api.MaxName; n++ {
		for _, c := range []string{"a", "Z", "_", "0"} {
			s := "b" + strings.Repeat(c, n-1)
			l, at, e := Lex("  " + s)
			if n <= api.MaxName && (e != api.OK || at != n+2 || !slices.Equal(l, []api.Token{named(s, 2)})) {
				t.Errorf("%d bytes: %+v, %d, %v", n, l, at, e)
			}
			if n > api.MaxName && (e != api.ErrFull || at != 2 || len(l) != 0) {
				t.Errorf("%d bytes: %+v, %d, %v", n, l, at, e)
			}
		}
	}
}

// againstPatterns holds Lex of s against cut, and (P5.5) what is joined against what was.
func againstPatterns(t *testing.T, p *regexp.Regexp, s string) {
	t.Helper()
	l, at, e := Lex(s)
	want, end, err := cut(p, s)
	if !slices.Equal(l, want) || at != end || e != err {
		t.Fatalf("Lex(%q): %+v, %d, %v; not %+v, %d, %v", s, l, at, e, want, end, err)
	}
	joined := Join(l)
	if len(joined) > api.MaxText {
		return
	}
	again, at, e := Lex(joined)
	if !slices.Equal(unplaced(again), unplaced(l)) || at != len(joined) || e != api.OK {
		t.Fatalf("Lex(%q), joined of %q: %+v, %d, %v", joined, s, again, at, e)
	}
}

// P5.2, P5.5
func TestLexOfShortTexts(t *testing.T) {
	p := pieces()
	short("a_01.=<!&|-; \n\r#$", 4, func(s string) { againstPatterns(t, p, s) })
	short("0.# \na=", 6, func(s string) { againstPatterns(t, p, s) })
	short(" \t\n\r#;é\x00", 5, func(s string) { againstPatterns(t, p, s) })
}

// P5.2, P5.5
func TestLexOfMixedTexts(t *testing.T) {
	p := pieces()
	r := rand.New(rand.NewSource(5))
	for range 20000 {
		againstPatterns(t, p, mixed(r, r.Intn(40)))
	}
	for range 2000 {
		b := make([]byte, r.Intn(12))
		r.Read(b)
		againstPatterns(t, p, string(b))
	}
}

// P5.3
func TestJoin(t *testing.T) {
	for _, x := range []struct {
		l    []api.Token
		want string
	}{
		{nil, ""},
		{[]api.Token{}, ""},
		{texts(""), ""},
		{texts("", ""), " "},
		{texts("", "", ""), "  "},
		{texts("a"), "a"},
		{texts("a", "b"), "a b"},
		{texts("a", "", "b"), "a  b"},
		{texts("", "a"), " a"},
		{texts("a", ""), "a "},
		{texts("<", "="), "< ="},
		{texts("a b", " ", "# c\n", "é", "\x00", "\xff"), "a b   # c\n é \x00 \xff"},
		{texts("01", "1a", "&", "."), "01 1a & ."},
		{[]api.Token{{Kind: 7, Text: "x", At: -1}, {Kind: -1, Text: "y", At: api.MaxInt}, {Text: "z"}}, "x y z"},
		{[]api.Token{named("b", 9), named("a", 1)}, "b a"},
	} {
		if s := Join(x.l); s != x.want {
			t.Errorf("Join(%+v): %q", x.l, s)
		}
	}
	long := strings.Repeat("n", 1<<16)
	if s := Join(texts(long, long)); s != long+" "+long {
		t.Errorf("Join of long texts: %d bytes", len(s))
	}
	if s := Join(make([]api.Token, 1<<16)); s != strings.Repeat(" ", 1<<16-1) {
		t.Errorf("Join of many tokens: %d bytes", len(s))
	}
}

// borrowed is a text in memory that the test has, and may write over.
func borrowed(s string) (string, []byte) {
	b := []byte(s)
	return unsafe.String(unsafe.SliceData(b), len(b)), b
}

// P5.4
func TestLexKeepsNothing(t *testing.T) {
	const text = "task t { in a(x); } # c\n12 <= 3 .. abc"
	s, room := borrowed(text)
	first, _, _ := Lex(s)
	second, _, _ := Lex(s)
	want, _, _ := cut(pieces(), text)
	if s != text || !slices.Equal(first, want) || !slices.Equal(second, want) {
		t.Fatalf("%q: %+v, %+v", s, first, second)
	}
	clear(first[:cap(first)])
	if !slices.Equal(second, want) {
		t.Errorf("two answers share memory: %+v", second)
	}
	if third, _, _ := Lex(s); !slices.Equal(third, want) {
		t.Errorf("the answer is kept: %+v", third)
	}
	clear(room)
	if !slices.Equal(second, want) {
		t.Errorf("the answer hangs on the argument's memory: %+v", second)
	}
}

// P5.4
func TestJoinKeepsNothing(t *testing.T) {
	for n := range 4 {
		rooms := make([][]byte, n)
		l := make([]api.Token, n, n+3)
		var want []string
		for i := range l {
			s, room := borrowed("text" + strconv.Itoa(i))
			l[i], rooms[i] = api.Token{Kind: api.TokName, Text: s, At: i}, room
			want = append(want, "text"+strconv.Itoa(i))
		}
		spare := l[n:cap(l)]
		for i := range spare {
			spare[i] = named("spare", i)
		}
		was := slices.Clone(l[:cap(l)])
		s := Join(l)
		if !slices.Equal(l[:cap(l)], was) {
			t.Errorf("of %d: the tokens have changed: %+v", n, l[:cap(l)])
		}
		for _, room := range rooms {
			clear(room)
		}
		if s != strings.Join(want, " ") {
			t.Errorf("of %d: the answer hangs on the arguments' memory: %q", n, s)
		}
	}
}

// P5.4: nothing of what one call was given is seen in the next one.
func TestCallsAreApart(t *testing.T) {
	Lex("a $")
	Lex(strings.Repeat("a", api.MaxText+1))
	Number("77")
	Join(texts("a", "b"))
	if l, at, e := Lex(""); len(l) != 0 || at != 0 || e != api.OK {
		t.Errorf("Lex: %+v, %d, %v", l, at, e)
	}
	if n, is := Number(""); n != 0 || is {
		t.Errorf("Number: %d, %v", n, is)
	}
	if s := Join(nil); s != "" {
		t.Errorf("Join: %q", s)
	}
}

// P5.5
func TestJoinedIsCutAlike(t *testing.T) {
	for _, s := range []string{
		"", "# a", "a", "a<=1..2 # x", "1..2", "= = ==", "< = <=", "! = !=", "!!", "- -1", "a#b\nc", "0\n0", "in\tout\r\nif",
		"colour c = enum k; place a: c; place b: c; task t { in a(0); out b(0); } from a; to b;",
		strings.Join(allSigns(), ""), strings.Join(allSigns(), " "), strings.Join(words(), "\n"),
	} {
		l, _, e := Lex(s)
		if e != api.OK {
			t.Fatalf("Lex(%q): %v", s, e)
		}
		joined := Join(l)
		again, at, e := Lex(joined)
		if !slices.Equal(unplaced(again), unplaced(l)) || at != len(joined) || e != api.OK {
			t.Errorf("Lex(%q): %+v, %d, %v", joined, again, at, e)
		}
		// Once joined, places are the same too.
		if more, _, _ := Lex(Join(again)); !slices.Equal(more, again) || Join(again) != joined {
			t.Errorf("Lex(%q): %+v; not %+v", Join(again), more, again)
		}
	}
}

// P5.5 holds as long as what is joined is a text at all: past MaxText P5.2 is what Lex tells.
func TestJoinedIsTooLong(t *testing.T) {
	l, _, _ := Lex(strings.Repeat(";", api.MaxText/2))
	if again, at, e := Lex(Join(l) + " "); len(again) != len(l) || at != api.MaxText || e != api.OK {
		t.Errorf("%d tokens, %d, %v", len(again), at, e)
	}
	l, _, _ = Lex(strings.Repeat(";", api.MaxText/2+1))
	if again, at, e := Lex(Join(l)); len(again) != 0 || at != 0 || e != api.ErrFull {
		t.Errorf("%d tokens, %d, %v", len(again), at, e)
	}
}
