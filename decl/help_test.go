package decl

import (
	"slices"
	"testing"

	"sortkernel/api"
	"sortkernel/term"
	"sortkernel/text"
	"sortkernel/wire"
)

func v(n int) api.Term { return api.Term{Kind: api.TmVar, N: n} }

func def(n int) api.Term { return api.Term{Kind: api.TmDef, N: n} }

func m(kind int, args ...api.Term) api.Term { return api.Term{Kind: kind, Args: args} }

var (
	nat  = m(api.TmNat)
	zero = m(api.TmZero)
	none = m(0) // of a kind that is none
)

// The declarations that most tests have ahead: name, type, body.
var declared = [][3]string{
	{"one", "nat", "(suc zero)"},
	{"add", "(pi nat n (pi nat m nat))", "(fn nat n (fn nat m (rec k nat n j i (suc i) m)))"},
	// A type for each number: unit of 0, nat of 1 and more.
	{"some", "(pi nat n U0)", "(fn nat n (rec k U0 unit j i nat n))"},
	// Its type is to be worked out.
	{"next", "(pi (some one) n nat)", "(fn nat n (suc n))"},
	{"not", "(pi U0 a U0)", "(fn U0 a (pi a x empty))"},
	{"id", "(pi U0 a (pi a x a))", "(fn U0 a (fn a x x))"},
}

// read is the term of a text, where those of l are declared.
func read(t *testing.T, l []api.Decl, s string) api.Term {
	t.Helper()
	x, e := text.Parse(s, nil, Names(l))
	if e != api.OK {
		t.Fatalf("%q is no term: %d", s, e)
	}
	return x
}

// made is a declaration of texts, behind those of l.
func made(t *testing.T, l []api.Decl, name, of, body string) api.Decl {
	t.Helper()
	return api.Decl{Name: name, Type: read(t, l, of), Body: read(t, l, body)}
}

// base are the first so many of declared; nobody took them.
func base(t *testing.T, many int) []api.Decl {
	t.Helper()
	var out []api.Decl
	for _, d := range declared[:many] {
		out = append(out, made(t, out, d[0], d[1], d[2]))
	}
	return out
}

func sameDecl(a, b api.Decl) bool {
	return a.Name == b.Name && term.Same(a.Type, b.Type) && term.Same(a.Body, b.Body)
}

func sameDecls(a, b []api.Decl) bool { return slices.EqualFunc(a, b, sameDecl) }

// taken: d is taken behind l; what comes is answered.
func taken(t *testing.T, l []api.Decl, d api.Decl) []api.Decl {
	t.Helper()
	got, v := Add(l, d)
	if v != (api.Verdict{}) || len(got) != len(l)+1 || !sameDecls(got[:len(l)], l) || !sameDecl(got[len(l)], d) {
		t.Fatalf("%v, behind %q: %v comes, and %v", d, Names(l), v, got)
	}
	return got
}

// refused: d is not taken behind l, which stays.
func refused(t *testing.T, l []api.Decl, d api.Decl, e api.Errno, part int) {
	t.Helper()
	got, v := Add(l, d)
	if v != (api.Verdict{Err: e, Part: part}) || !sameDecls(got, l) {
		t.Errorf("%v, behind %q: %v comes, not %d of %d, and %v", d, Names(l), v, e, part, got)
	}
}

// numbered are so many declarations of numbers, called by letters.
func numbered(many int) []api.Decl {
	var out []api.Decl
	for i := range many {
		out = append(out, api.Decl{Name: string(rune('a' + i)), Type: nat, Body: zero})
	}
	return out
}

// under is x with so many TmSuc around it.
func under(x api.Term, many int) api.Term {
	for range many {
		x = m(api.TmSuc, x)
	}
	return x
}

// each has f told all terms that have so many bytes at most, and begin with those of b; N of some are out of range.
func each(b []byte, most int, f func(api.Term)) {
	x, _, e := wire.Get(b)
	if e == api.OK {
		f(x)
	}
	if e != api.ErrEnd || len(b) == most {
		return
	}
	for next := range byte(api.TmDef + 1) {
		each(append(b[:len(b):len(b)], next), most, f)
	}
}

// roomy is x with spare room behind each list of it.
func roomy(x api.Term) api.Term {
	out := api.Term{Kind: x.Kind, N: x.N, Args: make([]api.Term, 0, len(x.Args)+2)}
	for _, a := range x.Args {
		out.Args = append(out.Args, roomy(a))
	}
	for i := len(x.Args); i < cap(out.Args); i++ {
		out.Args[:cap(out.Args)][i] = none
	}
	return out
}

// roomyAll is l with spare room behind it, in which there are declarations, and behind each list of it.
func roomyAll(l []api.Decl) []api.Decl {
	var out []api.Decl
	for _, d := range append(l[:len(l):len(l)], numbered(3)...) {
		out = append(out, api.Decl{Name: d.Name, Type: roomy(d.Type), Body: roomy(d.Body)})
	}
	return out[:len(l)]
}

// sameRoom is whether terms are the same, with the spare room of their lists.
func sameRoom(a, b api.Term) bool {
	return a.Kind == b.Kind && a.N == b.N && len(a.Args) == len(b.Args) &&
		slices.EqualFunc(a.Args[:cap(a.Args)], b.Args[:cap(b.Args)], sameRoom)
}

// sameRoomAll is sameRoom, of declarations: of those in the spare room behind a and b, too, but not behind these.
func sameRoomAll(a, b []api.Decl) bool {
	same := func(x, y api.Decl) bool {
		return x.Name == y.Name && sameRoom(x.Type, y.Type) && sameRoom(x.Body, y.Body)
	}
	return len(a) == len(b) && slices.EqualFunc(a[:len(a)+3], b[:len(b)+3], same)
}

// spoil overwrites all lists of x, with their spare room.
func spoil(x api.Term) {
	l := x.Args[:cap(x.Args)]
	for i := range l {
		spoil(l[i])
		l[i] = api.Term{Kind: -5}
	}
}

// spoilAll overwrites l, and all lists of it, with their spare room.
func spoilAll(l []api.Decl) {
	l = l[:cap(l)]
	for i := range l {
		spoil(l[i].Type)
		spoil(l[i].Body)
		l[i] = api.Decl{Name: "gone"}
	}
}

// lists has the first place of each list of x, and how often it is there.
func lists(x api.Term, out map[*api.Term]int) {
	if cap(x.Args) > 0 {
		out[&x.Args[:1][0]]++
	}
	for _, a := range x.Args {
		lists(a, out)
	}
}
