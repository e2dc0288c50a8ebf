package parse

import (
	"strings"

	"baldric/api"
	"baldric/token"
)

// reader goes over tokens. Once one is wrong there are no more of them, so that whatever is read behind it is at its end, and the first fault stays the one that is told.
type reader struct {
	rest []api.Token
	end  int
	at   int
	err  api.Errno
}

// here is the token that is next; behind the last one, one of no kind that stands at the end.
func (r *reader) here() api.Token {
	if len(r.rest) == 0 {
		return api.Token{At: r.end}
	}
	return r.rest[0]
}

// step goes over the token that is next.
func (r *reader) step() { r.rest = r.rest[1:] }

// fail holds a fault, if there was none.
func (r *reader) fail(at int, err api.Errno) {
	if r.err == api.OK {
		r.at, r.err = at, err
	}
	r.rest = nil
}

// wrong says that the token that is next may not be there.
func (r *reader) wrong() { r.fail(r.here().At, api.ErrForm) }

// is tells whether this word, or this sign, is next.
func (r *reader) is(text string) bool {
	t := r.here()
	return t.Text == text && fixed(t)
}

// fixed tells whether t is what its text says in the grammar. A Word is that as a sign too, but a name only if it is a Word.
func fixed(t api.Token) bool {
	return t.Kind == api.TokSign || t.Kind == api.TokName && token.Word(t.Text)
}

// took tells whether this word, or this sign, was next, and goes over it.
func (r *reader) took(text string) bool {
	is := r.is(text)
	if is {
		r.step()
	}
	return is
}

// must goes over this word, or this sign.
func (r *reader) must(text string) {
	if !r.took(text) {
		r.wrong()
	}
}

// over asks that nothing more is there.
func (r *reader) over() {
	if len(r.rest) > 0 {
		r.wrong()
	}
}

// name is the name that is next, in memory of its own.
func (r *reader) name() string {
	t := r.here()
	if t.Kind != api.TokName || token.Word(t.Text) {
		r.wrong()
		return ""
	}
	r.step()
	return strings.Clone(t.Text)
}

// fresh is the name that is next, which none of l has.
func (r *reader) fresh(l rows) string {
	at, s := r.here().At, r.name()
	if _, is := l[s]; is {
		r.fail(at, api.ErrTwice)
	}
	return s
}

// known is the place of what has the name that is next.
func (r *reader) known(l rows) int {
	at, s := r.here().At, r.name()
	n, is := l[s]
	if !is {
		r.fail(at, api.ErrNone)
	}
	return n
}

func (r *reader) number() int {
	t := r.here()
	n, is := token.Number(t.Text)
	if t.Kind != api.TokNumber || !is {
		r.wrong()
		return 0
	}
	r.step()
	return n
}

// integer is a number that may be below 0.
func (r *reader) integer() int {
	if r.took("-") {
		return -r.number()
	}
	return r.number()
}

// rows is names of one kind, and the place of each in its row.
type rows map[string]int

// add puts a name that is not in l behind all that are.
func (l rows) add(name string) { l[name] = len(l) }

// rowsOf is these names; of those that are alike the first one counts.
func rowsOf(names []string) rows {
	l := rows{}
	for i, s := range names {
		if _, is := l[s]; !is {
			l[s] = i
		}
	}
	return l
}
