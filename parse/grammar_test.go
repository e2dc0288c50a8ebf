package parse

import (
	"regexp"
	"slices"
	"strings"

	"baldric/api"
	"baldric/calc"
	"baldric/token"
)

// grammar is the document's, with marks that say more of what stands there:
// ! and ? a name that is declared, or used, and of which kind; ^ what stands once in a task; . what ends a declaration;
// < and > a level of an expression that begins and ends, ~ one that begins where another ends; - what a part stands behind; * where a part is.
const grammar = `
net    = { colour | place | task } "from" NAME?place ";" "to" NAME?place ";"
colour = "colour" NAME!colour "=" ( "int" int ".." int | "enum" NAME { "," NAME } | "pair" NAME?colour "," NAME?colour ) ";".
int    = [ "-" ] NUMBER
place  = "place" NAME!place ":" NAME?colour [ "=" few { "," few } ] ";".
few    = NUMBER [ "*" NUMBER ]
task   = "task" NAME!task "{" { clause ";". } "}"
clause = "var" NAME!var ":" NAME?colour | "when"^< expr | "join"^ kind | "split"^ kind | "in" NAME?place "("< expr ")"> | "out" NAME?place "("< expr ")">
       | "cancel" NAME?place | "after"^ NUMBER | "many"^ NUMBER "," NUMBER "," NUMBER
kind   = "and" | "xor" | "or"
expr   = unary { sign unary }
unary  = "-"- unary | "!"- unary | "("< expr ")"> | "if"* "("< expr ","~ expr ","~ expr ")"> | NUMBER* | NAME*?var
`

// node is a piece of the grammar.
type node struct {
	form  string // end (a token), and, or, many, maybe
	term  string // of end: which token
	marks string
	kind  string // of ! and ?
	kids  []*node
}

// rules makes nodes of the grammar's text.
type rules struct {
	l    []string
	made map[string]*node
}

// readGrammar is what a rule's name stands for.
func readGrammar() func(string) *node {
	r := rules{made: map[string]*node{}}
	r.l = regexp.MustCompile(`"[^"]+"[.^<>~\-*]*|[A-Za-z]+[*]?(?:[!?][a-z]+)?|[=|{}()\[\]]`).FindAllString(grammar, -1)
	for len(r.l) > 0 {
		n := r.rule(r.l[0])
		r.l = r.l[2:]
		n.kids = []*node{r.choice()}
	}
	return r.rule
}

func (r *rules) rule(name string) *node {
	if r.made[name] == nil {
		r.made[name] = &node{form: "and"}
	}
	return r.made[name]
}

func (r *rules) choice() *node {
	n := &node{form: "or", kids: []*node{r.row()}}
	for len(r.l) > 0 && r.l[0] == "|" {
		r.l = r.l[1:]
		n.kids = append(n.kids, r.row())
	}
	return n
}

func (r *rules) row() *node {
	n := &node{form: "and"}
	for len(r.l) > 0 && !strings.Contains("|})]", r.l[0]) && (len(r.l) == 1 || r.l[1] != "=") {
		s := r.l[0]
		r.l = r.l[1:]
		n.kids = append(n.kids, r.single(s))
	}
	return n
}

func (r *rules) single(s string) *node {
	if form := map[string]string{"{": "many", "(": "and", "[": "maybe"}[s]; form != "" {
		n := &node{form: form, kids: []*node{r.choice()}}
		r.l = r.l[1:]
		return n
	}
	if m := regexp.MustCompile(`^("[^"]+"|NAME|NUMBER|sign)([^a-z]*)([a-z]*)$`).FindStringSubmatch(s); m != nil {
		return &node{form: "end", term: m[1], marks: m[2], kind: m[3]}
	}
	return r.rule(s)
}

// todo is what must still come: a node, and what is behind it.
type todo struct {
	n    *node
	then *todo
}

// ahead is the tokens that may come next, each with what is to come behind it, and whether there may be none.
func (t *todo) ahead() (l []*todo, over bool) {
	if t == nil {
		return nil, true
	}
	var ways []*todo
	switch t.n.form {
	case "end":
		return []*todo{t}, false
	case "and":
		next := t.then
		for _, kid := range slices.Backward(t.n.kids) {
			next = &todo{kid, next}
		}
		ways = []*todo{next}
	case "or":
		for _, kid := range t.n.kids {
			ways = append(ways, &todo{kid, t.then})
		}
	case "many":
		ways = []*todo{t.then, {t.n.kids[0], t}}
	case "maybe":
		ways = []*todo{t.then, {t.n.kids[0], t.then}}
	}
	for _, w := range ways {
		more, is := w.ahead()
		l, over = append(l, more...), over || is
	}
	return l, over
}

// fits tells whether t may be the token of the node.
func (n *node) fits(t api.Token) bool {
	is := true
	switch n.term {
	case "NAME":
		return t.Kind == api.TokName && !token.Word(t.Text)
	case "NUMBER":
		_, is = token.Number(t.Text)
		return t.Kind == api.TokNumber && is
	case "sign":
		_, is = calc.Op(t.Text)
	default:
		is = t.Text == strings.Trim(n.term, `"`)
	}
	// Of TokSign, or, if it is a Word, of TokName.
	return is && (t.Kind == api.TokSign || token.Word(t.Text) && t.Kind == api.TokName)
}

// judge holds tokens against the document: the grammar, the names, what stands once, how deep parts are.
type judge struct {
	todo  *todo
	names map[string][]string
	fresh [][2]string // declared, but not yet known
	stood []string

	levels []level
	deep   int  // of the part that begins, or that began last
	begins bool // whether a part must begin
}

// level is what stands in one pair of brackets, or between if's signs: how deep it is, and operations whose second part may still go on.
type level struct {
	deep int
	ops  []open
}

// open is an operation's strength, and how deep its second part is.
type open struct{ strength, deep int }

func judgeOfNet(rule func(string) *node) *judge {
	return &judge{todo: &todo{rule("net"), nil}, names: map[string][]string{}}
}

func judgeOfExpr(rule func(string) *node, names []string) *judge {
	j := &judge{todo: &todo{rule("expr"), nil}, names: map[string][]string{"var": names}}
	j.enter()
	return j
}

// tells is the place and the error that l must have.
func (j *judge) tells(l []api.Token, end int) (int, api.Errno) {
	for _, t := range l {
		if err := j.takes(t); err != api.OK {
			return t.At, err
		}
	}
	if j.tooDeep() {
		return end, api.ErrFull
	}
	if _, over := j.todo.ahead(); !over {
		return end, api.ErrForm
	}
	return end, api.OK
}

func (j *judge) tooDeep() bool { return j.begins && j.deep > api.MaxDeep }

func (j *judge) takes(t api.Token) api.Errno {
	if j.tooDeep() {
		return api.ErrFull
	}
	l, _ := j.todo.ahead()
	l = slices.DeleteFunc(l, func(w *todo) bool { return !w.n.fits(t) })
	if len(l) == 0 {
		return api.ErrForm
	}
	if len(l) > 1 {
		panic("two ways to take " + t.Text)
	}
	j.todo = l[0].then
	if err := j.means(l[0].n, t.Text); err != api.OK {
		return err
	}
	j.sinks(l[0].n, t.Text)
	return api.OK
}

// means keeps names, and tells what is wrong with them.
func (j *judge) means(n *node, text string) api.Errno {
	has := func(mark string) bool { return strings.Contains(n.marks, mark) }
	known := slices.Contains(j.names[n.kind], text)
	switch {
	case has("?") && !known:
		return api.ErrNone
	case has("!") && known, has("^") && slices.Contains(j.stood, text):
		return api.ErrTwice
	case has("!"):
		j.fresh = append(j.fresh, [2]string{n.kind, text})
	case has("^"):
		j.stood = append(j.stood, text)
	case has("."):
		for _, f := range j.fresh {
			j.names[f[0]] = append(j.names[f[0]], f[1])
		}
		j.fresh = nil
	case n.term == `"task"`:
		j.names["var"], j.stood = nil, nil
	case n.term == `"}"`:
		// A task of no clauses is declared by nothing else.
		for _, f := range j.fresh {
			j.names[f[0]] = append(j.names[f[0]], f[1])
		}
		j.fresh = nil
	}
	return api.OK
}

// sinks counts how deep the next part is.
func (j *judge) sinks(n *node, text string) {
	has := func(mark string) bool { return strings.Contains(n.marks, mark) }
	switch {
	case has("<"):
		j.enter()
	case has(">"):
		j.leave()
	case has("~"):
		j.leave()
		j.enter()
	case has("-"):
		j.deep++
	case has("*"):
		j.begins = false
	case has("."):
		j.levels, j.deep, j.begins = nil, 0, false
	case n.term == "sign":
		j.operates(text)
	}
}

func (j *judge) enter() {
	j.deep++
	j.levels = append(j.levels, level{deep: j.deep})
	j.begins = true
}

// leave comes back to what is around a level.
func (j *judge) leave() {
	last := len(j.levels) - 1
	j.deep = j.levels[last].deep - 1
	j.levels = j.levels[:last]
	j.begins = false
}

// operates is where a sign stands: what binds as closely, or more, is whole ahead of it.
func (j *judge) operates(sign string) {
	op, _ := calc.Op(sign)
	strength := calc.Strength(op)
	top := &j.levels[len(j.levels)-1]
	for len(top.ops) > 0 && top.ops[len(top.ops)-1].strength >= strength {
		top.ops = top.ops[:len(top.ops)-1]
	}
	j.deep = top.deep
	if len(top.ops) > 0 {
		j.deep = top.ops[len(top.ops)-1].deep
	}
	j.deep++
	top.ops = append(top.ops, open{strength, j.deep})
	j.begins = true
}
