package text

import (
	"slices"
	"strconv"
	"strings"

	"sortkernel/api"
	"sortkernel/term"
)

// Print is t as a text, where these are bound, and declared, the last ones last.
func Print(t api.Term, bound, decls []string) string {
	// What is bound within t is put behind: never into the spare room of the caller's list.
	w := writer{bound: slices.Clone(bound), decls: decls}
	w.term(t)
	return w.out.String()
}

// writer has what is written so far, and what is bound, and declared, where the next word stands.
type writer struct {
	out          strings.Builder
	bound, decls []string
}

// term writes t.
func (w *writer) term(t api.Term) {
	switch t.Kind {
	case api.TmVar:
		w.out.WriteString(nameAt(w.bound, len(w.bound)-1-t.N))
	case api.TmDef:
		w.out.WriteString(nameAt(w.decls, t.N))
	case api.TmU:
		w.out.WriteString("U" + strconv.Itoa(t.N))
	default:
		w.kind(t)
	}
}

// kind writes t by its kind's word, if it has one, with a bracket around, if it has arguments.
func (w *writer) kind(t api.Term) {
	binds, _ := term.Binds(t.Kind)
	if len(binds) == 0 {
		w.out.WriteString(wordOf(t.Kind))
		return
	}
	w.out.WriteString("(" + wordOf(t.Kind))
	for i, more := range binds[:min(len(binds), len(t.Args))] {
		if i > 0 || t.Kind != api.TmApp {
			w.out.WriteByte(' ')
		}
		w.arg(t.Args[i], more)
	}
	w.out.WriteByte(')')
}

// arg writes the names of so many, and the argument that has them bound.
func (w *writer) arg(a api.Term, more int) {
	outside := len(w.bound)
	for range more {
		name := boundName(len(w.bound))
		w.out.WriteString(name + " ")
		w.bound = append(w.bound, name)
	}
	w.term(a)
	w.bound = w.bound[:outside]
}

// boundName is what is called what was bound behind so many others.
func boundName(ahead int) string {
	const letters = "abcdefghijklmnopqrstuvwxyz"
	at := ahead % len(letters)
	return "x" + letters[at:at+1]
}

// nameAt is the name that stands there in l; of terms that are not right there may be none.
func nameAt(l []string, at int) string {
	if at < 0 || at >= len(l) {
		return ""
	}
	return l[at]
}
