package needs

import (
	"slices"
	"testing"

	"sortkernel/api"
	"sortkernel/book"
	"sortkernel/decl"
	"sortkernel/term"
	"sortkernel/text"
)

func v(n int) api.Term { return api.Term{Kind: api.TmVar, N: n} }

func def(n int) api.Term { return api.Term{Kind: api.TmDef, N: n} }

func m(kind int, args ...api.Term) api.Term { return api.Term{Kind: kind, Args: args} }

var (
	nat  = m(api.TmNat)
	zero = m(api.TmZero)
)

// lines are what most tests have declared; all of them are taken.
const lines = `(def one nat (suc zero))
(def ty U0 nat)
(def two ty (suc one))
(def add (pi nat n (pi ty m nat)) (fn nat n (fn nat m (rec k nat n j i (suc i) m))))
(def some (pi nat n U0) (fn nat n (rec k U0 unit j i nat n)))
(def next (pi (some one) n nat) (fn nat n (suc n)))
(def four nat ((add two) two))
(def here unit star)
(def this (sig nat n (some n)) (pair nat n (some n) two four))
(def id (pi U0 a (pi a x a)) (fn U0 a (fn a x x)))
(def same ty ((id ty) two))
(def idle (some zero) here)
`

// taken are the declarations of those lines.
func taken(t *testing.T, lines string) []api.Decl {
	t.Helper()
	l, vs := book.Load(lines)
	for i, v := range vs {
		if v.Err != api.OK {
			t.Fatalf("line %d is not taken: %v", i, v)
		}
	}
	return l
}

// read is the term of a text, where a and b are bound, and those of l are declared.
func read(t *testing.T, l []api.Decl, s string) api.Term {
	t.Helper()
	x, e := text.Parse(s, []string{"a", "b"}, decl.Names(l))
	if e != api.OK {
		t.Fatalf("%q is no term: %d", s, e)
	}
	return x
}

// readAll are the terms of texts.
func readAll(t *testing.T, l []api.Decl, texts []string) []api.Term {
	t.Helper()
	var out []api.Term
	for _, s := range texts {
		out = append(out, read(t, l, s))
	}
	return out
}

// called are the names of those numbers, in turn.
func called(l []api.Decl, numbers []int) []string {
	var out []string
	for _, n := range numbers {
		out = append(out, l[n].Name)
	}
	return out
}

// written is a text of x, where a and b are bound, and those of l are declared.
func written(l []api.Decl, x api.Term) string {
	return text.Print(x, []string{"a", "b"}, decl.Names(l))
}

func sameDecl(a, b api.Decl) bool {
	return a.Name == b.Name && term.Same(a.Type, b.Type) && term.Same(a.Body, b.Body)
}

func sameDecls(a, b []api.Decl) bool { return slices.EqualFunc(a, b, sameDecl) }

func sameTerms(a, b []api.Term) bool { return slices.EqualFunc(a, b, term.Same) }

// names is whether x names that declaration.
func names(x api.Term, n int) bool {
	return x.Kind == api.TmDef && x.N == n || slices.ContainsFunc(x.Args, func(a api.Term) bool { return names(a, n) })
}

// plainly is Of's answer, as the chapter tells it: as long as one more is named, it is one of them.
func plainly(l []api.Decl, ts []api.Term) []int {
	in := make([]bool, len(l))
	all := slices.Clone(ts)
	for n := 0; n < len(l); n++ {
		if !in[n] && slices.ContainsFunc(all, func(x api.Term) bool { return names(x, n) }) {
			in[n], all = true, append(all, l[n].Type, l[n].Body)
			n = -1
		}
	}
	var out []int
	for n := range l {
		if in[n] {
			out = append(out, n)
		}
	}
	return out
}

// firstUnfolded is x, where the first declaration in it is its body; false, if there is none in it.
func firstUnfolded(l []api.Decl, x api.Term) (api.Term, bool) {
	if x.Kind == api.TmDef {
		return l[x.N].Body, true
	}
	for i := range x.Args {
		if a, ok := firstUnfolded(l, x.Args[i]); ok {
			y := term.Copy(x)
			y.Args[i] = a
			return y, true
		}
	}
	return x, false
}

// oneByOne is Unfold's answer, one declaration behind the other.
func oneByOne(l []api.Decl, x api.Term) api.Term {
	for more := true; more; {
		x, more = firstUnfolded(l, x)
	}
	return x
}

// roomy is x with spare room behind each list of it, in which there is what is declared.
func roomy(x api.Term) api.Term {
	out := api.Term{Kind: x.Kind, N: x.N, Args: make([]api.Term, 0, len(x.Args)+2)}
	for _, a := range x.Args {
		out.Args = append(out.Args, roomy(a))
	}
	for i := len(x.Args); i < cap(out.Args); i++ {
		out.Args[:cap(out.Args)][i] = def(i)
	}
	return out
}

// roomyDecls is l with spare room behind it, and behind each list of it.
func roomyDecls(l []api.Decl) []api.Decl {
	out := make([]api.Decl, 0, len(l)+2)
	for _, d := range l {
		out = append(out, api.Decl{Name: d.Name, Type: roomy(d.Type), Body: roomy(d.Body)})
	}
	for i := len(l); i < cap(out); i++ {
		out[:cap(out)][i] = api.Decl{Name: "spare", Type: roomy(nat), Body: roomy(def(0))}
	}
	return out
}

// roomyTerms is l likewise.
func roomyTerms(l []api.Term) []api.Term {
	return roomy(api.Term{Args: l}).Args
}

// sameRoom is whether terms are the same, with the spare room of their lists.
func sameRoom(a, b api.Term) bool {
	return a.Kind == b.Kind && a.N == b.N && len(a.Args) == len(b.Args) &&
		slices.EqualFunc(a.Args[:cap(a.Args)], b.Args[:cap(b.Args)], sameRoom)
}

// sameRoomDecls is sameRoom, of declarations, with the spare room behind a and b.
func sameRoomDecls(a, b []api.Decl) bool {
	return len(a) == len(b) && slices.EqualFunc(a[:cap(a)], b[:cap(b)], func(x, y api.Decl) bool {
		return x.Name == y.Name && sameRoom(x.Type, y.Type) && sameRoom(x.Body, y.Body)
	})
}

// spoil overwrites all lists of x, with their spare room.
func spoil(x api.Term) {
	l := x.Args[:cap(x.Args)]
	for i := range l {
		spoil(l[i])
		l[i] = api.Term{Kind: -5}
	}
}

// spoilDecls overwrites l, and all lists of it, with their spare room.
func spoilDecls(l []api.Decl) {
	l = l[:cap(l)]
	for i := range l {
		spoil(l[i].Type)
		spoil(l[i].Body)
		l[i] = api.Decl{Name: "gone"}
	}
}

// lists has the first place of each list of x, and how often it is there.
func lists(x api.Term, out map[*api.Term]int) {
	if cap(x.Args) > 0 {
		out[&x.Args[:1][0]]++
	}
	for _, a := range x.Args {
		lists(a, out)
	}
}
