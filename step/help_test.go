package step

import (
	"testing"

	"sortkernel/api"
	"sortkernel/term"
	"sortkernel/text"
)

func v(n int) api.Term { return api.Term{Kind: api.TmVar, N: n} }

func def(n int) api.Term { return api.Term{Kind: api.TmDef, N: n} }

func m(kind int, args ...api.Term) api.Term { return api.Term{Kind: kind, Args: args} }

var (
	nat  = m(api.TmNat)
	zero = m(api.TmZero)
	none = m(0) // of a kind that is none
)

// under is t with so many TmSuc around it.
func under(t api.Term, many int) api.Term {
	for range many {
		t = m(api.TmSuc, t)
	}
	return t
}

// The tests' terms stand where these are bound, and declared.
var (
	someBound = []string{"a", "b"}
	someNames = []string{"one", "two", "add"}
)

// read is the term of a text, of those names.
func read(t *testing.T, s string) api.Term {
	t.Helper()
	x, e := text.Parse(s, someBound, someNames)
	if e != api.OK {
		t.Fatalf("%q is no term: %d", s, e)
	}
	return x
}

// some are the declarations of those names.
func some(t *testing.T) []api.Decl {
	t.Helper()
	return []api.Decl{
		{Name: "one", Type: nat, Body: read(t, "(suc zero)")},
		{Name: "two", Type: nat, Body: read(t, "(suc one)")},
		{Name: "add", Type: read(t, "(pi nat n (pi nat m nat))"), Body: read(t, "(fn nat n (fn nat m (rec k nat n j i (suc i) m)))")},
	}
}

func written(x api.Term) string { return text.Print(x, someBound, someNames) }

func same(t *testing.T, what string, got, want api.Term) {
	t.Helper()
	if !term.Same(got, want) {
		t.Errorf("%s: %v comes, not %v", what, got, want)
	}
}

// behindOne is x behind the first step, or the last one, looked for from the whole of x, and written anew
// around where it is: by this, and not by a walk that goes on, the tests hold many steps against one.
func behindOne(decls []api.Decl, x api.Term, last bool) (api.Term, bool) {
	if last {
		if y, ok := behindArg(decls, x, last); ok {
			return y, true
		}
		return behindItself(decls, x)
	}
	if y, ok := behindItself(decls, x); ok {
		return y, true
	}
	return behindArg(decls, x, last)
}

func behindArg(decls []api.Decl, x api.Term, last bool) (api.Term, bool) {
	for i := range x.Args {
		if last {
			i = len(x.Args) - 1 - i
		}
		if a, ok := behindOne(decls, x.Args[i], last); ok {
			y := term.Copy(x)
			y.Args[i] = a
			return y, true
		}
	}
	return x, false
}

func behindItself(decls []api.Decl, x api.Term) (api.Term, bool) {
	if x.Kind == api.TmDef {
		return decls[x.N].Body, true
	}
	if x.Kind == api.TmApp && x.Args[0].Kind == api.TmLam {
		return term.Put(x.Args[0].Args[1], x.Args[1]), true
	}
	if x.Kind == api.TmFst && x.Args[0].Kind == api.TmPair {
		return x.Args[0].Args[2], true
	}
	if x.Kind == api.TmSnd && x.Args[0].Kind == api.TmPair {
		return x.Args[0].Args[3], true
	}
	if x.Kind == api.TmRec && x.Args[3].Kind == api.TmZero {
		return x.Args[1], true
	}
	if x.Kind == api.TmRec && x.Args[3].Kind == api.TmSuc {
		n := x.Args[3].Args[0]
		came := m(api.TmRec, x.Args[0], x.Args[1], x.Args[2], n)
		// The number is put first, and not last as the program does it: what was bound last is a function's meanwhile.
		half := term.Put(m(api.TmLam, nat, x.Args[2]), n)
		return term.Put(half.Args[1], came), true
	}
	return x, false
}

// made is a right term, of some parts, where so many are bound, and those are declared; the numbers of seed choose.
func made(seed *uint32, deep, bound int) api.Term {
	pick := func(many int) int {
		*seed = *seed*1664525 + 1013904223
		return int(*seed>>16) % many
	}
	if deep == 0 || pick(5) == 0 {
		switch leaf := pick(4); {
		case leaf == 0:
			return zero
		case leaf == 1:
			return def(pick(len(someNames)))
		default:
			return v(pick(bound))
		}
	}
	// Those that steps are of are more often there than others.
	heads := []int{api.TmApp, api.TmApp, api.TmApp, api.TmRec, api.TmRec, api.TmFst, api.TmSnd, api.TmLam, api.TmLam, api.TmPair, api.TmSuc, api.TmPi, api.TmSig, api.TmAbsurd}
	kind := heads[pick(len(heads))]
	binds, _ := term.Binds(kind)
	out := m(kind)
	for _, more := range binds {
		out.Args = append(out.Args, made(seed, deep-1, bound+more))
	}
	return out
}

// roomy is x with spare room behind each list of it.
func roomy(x api.Term) api.Term {
	out := api.Term{Kind: x.Kind, N: x.N, Args: make([]api.Term, 0, len(x.Args)+2)}
	for _, a := range x.Args {
		out.Args = append(out.Args, roomy(a))
	}
	for i := len(x.Args); i < cap(out.Args); i++ {
		out.Args[:cap(out.Args)][i] = none
	}
	return out
}

// spoil overwrites all lists of t, with their spare room.
func spoil(t api.Term) {
	l := t.Args[:cap(t.Args)]
	for i := range l {
		spoil(l[i])
		l[i] = api.Term{Kind: -5}
	}
}

// sameRoom is whether terms are the same, with the spare room of their lists.
func sameRoom(a, b api.Term) bool {
	x, y := a.Args[:cap(a.Args)], b.Args[:cap(b.Args)]
	if a.Kind != b.Kind || a.N != b.N || len(a.Args) != len(b.Args) || len(x) != len(y) {
		return false
	}
	for i := range x {
		if !sameRoom(x[i], y[i]) {
			return false
		}
	}
	return true
}
