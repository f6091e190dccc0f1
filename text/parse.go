package text

import (
	"slices"
	"strconv"

	"sortkernel/api"
	"sortkernel/term"
)

// Parse is the term that s writes, where these are bound, and declared, the last ones last.
func Parse(s string, bound, decls []string) (api.Term, api.Errno) {
	if len(s) > api.MaxText {
		return api.Term{}, api.ErrMuch
	}
	if len(bound) > api.MaxBound {
		return api.Term{}, api.ErrMany
	}
	// What is bound within s is put behind: never into the spare room of the caller's list.
	r := reader{words: Words(s), bound: slices.Clone(bound), decls: decls}
	t, e := r.term(0)
	if e == api.OK && len(r.words) > 0 {
		e = api.ErrForm
	}
	if e != api.OK {
		return api.Term{}, e
	}
	return t, api.OK
}

// reader has the words that are not read yet, and what is bound, and declared, where they stand.
type reader struct {
	words, bound, decls []string
}

// next is the next word, which is read by it; false, if there is none.
func (r *reader) next() (string, bool) {
	if len(r.words) == 0 {
		return "", false
	}
	w := r.words[0]
	r.words = r.words[1:]
	return w, true
}

// term reads a term, so many terms being around it.
func (r *reader) term(around int) (api.Term, api.Errno) {
	if around >= api.MaxDeep {
		return api.Term{}, api.ErrDeep
	}
	w, ok := r.next()
	if !ok {
		return api.Term{}, api.ErrEnd
	}
	if w == "(" {
		return r.bracket(around + 1)
	}
	if w[0] == 'U' {
		return universe(w[1:])
	}
	if kind, ok := kindOf(w); ok {
		if many(kind) > 0 {
			return api.Term{}, api.ErrForm
		}
		return api.Term{Kind: kind}, api.OK
	}
	return r.named(w)
}

// bracket reads what is behind a `(`, to its `)`.
func (r *reader) bracket(around int) (api.Term, api.Errno) {
	t := api.Term{Kind: r.head()}
	binds, _ := term.Binds(t.Kind)
	for _, more := range binds {
		a, e := r.arg(more, around)
		if e != api.OK {
			return api.Term{}, e
		}
		t.Args = append(t.Args, a)
	}
	w, ok := r.next()
	if !ok {
		return api.Term{}, api.ErrEnd
	}
	if w != ")" {
		return api.Term{}, api.ErrForm
	}
	return t, api.OK
}

// head is the kind of what stands in a bracket: its word is read, if there is one; if there is none, it is TmApp.
func (r *reader) head() int {
	if len(r.words) == 0 {
		return api.TmApp
	}
	kind, ok := kindOf(r.words[0])
	if !ok || many(kind) == 0 {
		return api.TmApp
	}
	r.next()
	return kind
}

// arg reads the names of so many, and the argument that has them bound.
func (r *reader) arg(more, around int) (api.Term, api.Errno) {
	outside := len(r.bound)
	for range more {
		w, ok := r.next()
		if !ok {
			return api.Term{}, api.ErrEnd
		}
		if !Name(w) {
			return api.Term{}, api.ErrName
		}
		r.bound = append(r.bound, w)
	}
	if len(r.bound) > api.MaxBound {
		return api.Term{}, api.ErrMany
	}
	t, e := r.term(around)
	r.bound = r.bound[:outside]
	return t, e
}

// named is what is called w: what was bound last, or else what was declared last.
func (r *reader) named(w string) (api.Term, api.Errno) {
	if !Name(w) {
		return api.Term{}, api.ErrName
	}
	if i := lastOf(r.bound, w); i >= 0 {
		return api.Term{Kind: api.TmVar, N: len(r.bound) - 1 - i}, api.OK
	}
	if i := lastOf(r.decls, w); i >= 0 {
		return api.Term{Kind: api.TmDef, N: i}, api.OK
	}
	return api.Term{}, api.ErrNone
}

// lastOf is where w stands in l, the last time; below 0, if it does not.
func lastOf(l []string, w string) int {
	for i := len(l) - 1; i >= 0; i-- {
		if l[i] == w {
			return i
		}
	}
	return -1
}

// universe is the term of `U`, and of what stands behind it.
func universe(number string) (api.Term, api.Errno) {
	n, err := strconv.Atoi(number)
	// Atoi takes a needless 0, and a needless sign: what is written anew has neither.
	if err != nil || strconv.Itoa(n) != number {
		return api.Term{}, api.ErrForm
	}
	if n < 0 || n > api.MaxU {
		return api.Term{}, api.ErrRange
	}
	return api.Term{Kind: api.TmU, N: n}, api.OK
}

// many is how many arguments a kind has.
func many(kind int) int {
	binds, _ := term.Binds(kind)
	return len(binds)
}
