package canon

import (
	"slices"
	"testing"

	"sortkernel/api"
	"sortkernel/book"
	"sortkernel/decl"
	"sortkernel/infer"
	"sortkernel/text"
)

func v(n int) api.Term { return api.Term{Kind: api.TmVar, N: n} }

func u(n int) api.Term { return api.Term{Kind: api.TmU, N: n} }

func def(n int) api.Term { return api.Term{Kind: api.TmDef, N: n} }

func m(kind int, args ...api.Term) api.Term { return api.Term{Kind: kind, Args: args} }

var (
	nat  = m(api.TmNat)
	zero = m(api.TmZero)
	unit = m(api.TmUnit)
	star = m(api.TmStar)
)

// lines are what most tests have declared; all of them are taken.
const lines = `(def one nat (suc zero))
(def ty U0 nat)
(def two ty (suc one))
(def add (pi nat n (pi ty m nat)) (fn nat n (fn nat m (rec k nat n j i (suc i) m))))
(def some (pi nat n U0) (fn nat n (rec k U0 unit j i nat n)))
(def fun (pi nat n U0) (fn nat n (rec k U0 nat j i (pi nat h i) n)))
(def power (fun one) (fn nat n (rec k nat one j i (rec k nat zero l h (suc (suc h)) i) n)))
(def tower (fun one) (fn nat n (rec k nat zero j i (power i) n)))
(def here unit star)
(def this (sig nat n (some n)) (pair nat n (some n) two one))
(def id (pi U0 a (pi a x a)) (fn U0 a (fn a x x)))
(def box U1 (sig U0 a a))
`

// huge is a number that nobody can count to.
const huge = "(tower (suc (suc (suc (suc (suc one))))))"

// taken are the declarations of those lines.
func taken(t *testing.T, lines string) []api.Decl {
	t.Helper()
	l, vs := book.Load(lines)
	for i, v := range vs {
		if v.Err != api.OK {
			t.Fatalf("line %d is not taken: %v", i, v)
		}
	}
	return l
}

// read is the term of a text, where those of l are declared.
func read(t *testing.T, l []api.Decl, s string) api.Term {
	t.Helper()
	x, e := text.Parse(s, nil, decl.Names(l))
	if e != api.OK {
		t.Fatalf("%q is no term: %d", s, e)
	}
	return x
}

// of is the term of a text, and the one of its type's text; it must be of that type.
func of(t *testing.T, l []api.Decl, s, typ string) (api.Term, api.Term) {
	t.Helper()
	x, y := read(t, l, s), read(t, l, typ)
	// The highest one has no type, and is one.
	if _, e := infer.Sort(l, nil, y); e != api.OK && typ != "U3" {
		t.Fatalf("%q is no type: %d", typ, e)
	}
	if e := infer.Check(l, nil, x, y); e != api.OK {
		t.Fatalf("%q is not of %q: %d", s, typ, e)
	}
	return x, y
}

// roomy is x with spare room behind each list of it, in which there is what is declared.
func roomy(x api.Term) api.Term {
	out := api.Term{Kind: x.Kind, N: x.N, Args: make([]api.Term, 0, len(x.Args)+2)}
	for _, a := range x.Args {
		out.Args = append(out.Args, roomy(a))
	}
	for i := len(x.Args); i < cap(out.Args); i++ {
		out.Args[:cap(out.Args)][i] = def(i)
	}
	return out
}

// roomyDecls is l with spare room behind it, and behind each list of it.
func roomyDecls(l []api.Decl) []api.Decl {
	out := make([]api.Decl, 0, len(l)+2)
	for _, d := range l {
		out = append(out, api.Decl{Name: d.Name, Type: roomy(d.Type), Body: roomy(d.Body)})
	}
	for i := len(l); i < cap(out); i++ {
		out[:cap(out)][i] = api.Decl{Name: "spare", Type: roomy(nat), Body: roomy(def(0))}
	}
	return out
}

// sameRoom is whether terms are the same, with the spare room of their lists.
func sameRoom(a, b api.Term) bool {
	return a.Kind == b.Kind && a.N == b.N && len(a.Args) == len(b.Args) &&
		slices.EqualFunc(a.Args[:cap(a.Args)], b.Args[:cap(b.Args)], sameRoom)
}

// sameRoomDecls is sameRoom, of declarations, with the spare room behind a and b.
func sameRoomDecls(a, b []api.Decl) bool {
	return len(a) == len(b) && slices.EqualFunc(a[:cap(a)], b[:cap(b)], func(x, y api.Decl) bool {
		return x.Name == y.Name && sameRoom(x.Type, y.Type) && sameRoom(x.Body, y.Body)
	})
}

// spoil overwrites all lists of x, with their spare room.
func spoil(x api.Term) {
	l := x.Args[:cap(x.Args)]
	for i := range l {
		spoil(l[i])
		l[i] = api.Term{Kind: -5}
	}
}

// lists has the first place of each list of x, and how often it is there.
func lists(x api.Term, out map[*api.Term]int) {
	if cap(x.Args) > 0 {
		out[&x.Args[:1][0]]++
	}
	for _, a := range x.Args {
		lists(a, out)
	}
}

// sucs is t with so many TmSuc around it.
func sucs(t api.Term, many int) api.Term {
	for range many {
		t = m(api.TmSuc, t)
	}
	return t
}
