package eval

import (
	"strings"
	"testing"

	"sortkernel/api"
	"sortkernel/term"
	"sortkernel/text"
)

func v(n int) api.Term { return api.Term{Kind: api.TmVar, N: n} }

func def(n int) api.Term { return api.Term{Kind: api.TmDef, N: n} }

func m(kind int, args ...api.Term) api.Term { return api.Term{Kind: kind, Args: args} }

var (
	nat  = m(api.TmNat)
	zero = m(api.TmZero)
	none = m(0) // of a kind that is none
)

// under is t with so many TmSuc around it.
func under(t api.Term, many int) api.Term {
	for range many {
		t = m(api.TmSuc, t)
	}
	return t
}

// The tests' terms stand where these are bound, and declared.
var (
	someBound = []string{"a", "b"}
	someNames = []string{"one", "two", "add", "power", "tower"}
)

// read is the term of a text, of those names.
func read(t *testing.T, s string) api.Term {
	t.Helper()
	x, e := text.Parse(s, someBound, someNames)
	if e != api.OK {
		t.Fatalf("%q is no term: %d", s, e)
	}
	return x
}

// some are the declarations of those names: power is two to a number, and tower of 0, 1, 2 and so on is 0, 1, 2, 4,
// 16, 65536, and two to that.
func some(t *testing.T) []api.Decl {
	t.Helper()
	fun := read(t, "(pi nat n nat)")
	return []api.Decl{
		{Name: "one", Type: nat, Body: read(t, "(suc zero)")},
		{Name: "two", Type: nat, Body: read(t, "(suc one)")},
		{Name: "add", Type: read(t, "(pi nat n (pi nat m nat))"), Body: read(t, "(fn nat n (fn nat m (rec k nat n j i (suc i) m)))")},
		{Name: "power", Type: fun, Body: read(t, "(fn nat n (rec k nat one j i (rec k nat zero l h (suc (suc h)) i) n))")},
		{Name: "tower", Type: fun, Body: read(t, "(fn nat n (rec k nat zero j i (power i) n))")},
	}
}

// huge is a number that nobody can count to: two to 65536.
const huge = "(tower (suc (suc (suc (suc (suc (suc zero)))))))"

func written(x api.Term) string {
	if term.Size(x) > 1000 {
		return "something large"
	}
	return text.Print(x, someBound, someNames)
}

func same(t *testing.T, what string, got, want api.Term) {
	t.Helper()
	if !term.Same(got, want) {
		t.Errorf("%s: %s comes, not %s", what, written(got), written(want))
	}
}

// lastFirst is x behind the last step in it, looked for from the whole of x: not the first one, as package step does.
func lastFirst(decls []api.Decl, x api.Term) (api.Term, bool) {
	for i := len(x.Args) - 1; i >= 0; i-- {
		if a, ok := lastFirst(decls, x.Args[i]); ok {
			y := term.Copy(x)
			y.Args[i] = a
			return y, true
		}
	}
	return itself(decls, x)
}

// itself is x behind the step at itself.
func itself(decls []api.Decl, x api.Term) (api.Term, bool) {
	switch of := head(x); {
	case x.Kind == api.TmDef:
		return decls[x.N].Body, true
	case x.Kind == api.TmApp && of.Kind == api.TmLam:
		return term.Put(of.Args[1], x.Args[1]), true
	case x.Kind == api.TmFst && of.Kind == api.TmPair:
		return of.Args[2], true
	case x.Kind == api.TmSnd && of.Kind == api.TmPair:
		return of.Args[3], true
	case x.Kind == api.TmRec && of.Kind == api.TmZero:
		return x.Args[1], true
	case x.Kind == api.TmRec && of.Kind == api.TmSuc:
		n := of.Args[0]
		came := m(api.TmRec, x.Args[0], x.Args[1], x.Args[2], n)
		return term.Put(term.Put(x.Args[2], term.Lift(came, 1, 0)), n), true
	}
	return x, false
}

// head is what x is of, on which it hangs whether there is a step at x.
func head(x api.Term) api.Term {
	switch x.Kind {
	case api.TmApp, api.TmFst, api.TmSnd:
		return x.Args[0]
	case api.TmRec:
		return x.Args[3]
	}
	return none
}

// made is a right term, of some parts, where so many are bound, and those are declared; the numbers of seed choose.
func made(seed *uint32, deep, bound int) api.Term {
	pick := func(many int) int {
		*seed = *seed*1664525 + 1013904223
		return int(*seed>>16) % many
	}
	if deep == 0 || pick(5) == 0 {
		switch leaf := pick(5); {
		case leaf == 0:
			return zero
		case leaf == 1:
			return def(pick(3)) // not of those that come to much
		default:
			return v(pick(bound))
		}
	}
	// Those that steps are of are more often there than others.
	heads := []int{api.TmApp, api.TmApp, api.TmApp, api.TmRec, api.TmRec, api.TmFst, api.TmSnd, api.TmLam, api.TmLam, api.TmPair, api.TmSuc, api.TmPi, api.TmSig, api.TmAbsurd}
	kind := heads[pick(len(heads))]
	binds, _ := term.Binds(kind)
	out := m(kind)
	for _, more := range binds {
		out.Args = append(out.Args, made(seed, deep-1, bound+more))
	}
	return out
}

// roomy is x with spare room behind each list of it.
func roomy(x api.Term) api.Term {
	out := api.Term{Kind: x.Kind, N: x.N, Args: make([]api.Term, 0, len(x.Args)+2)}
	for _, a := range x.Args {
		out.Args = append(out.Args, roomy(a))
	}
	for i := len(x.Args); i < cap(out.Args); i++ {
		out.Args[:cap(out.Args)][i] = none
	}
	return out
}

// spoil overwrites all lists of t, with their spare room.
func spoil(t api.Term) {
	l := t.Args[:cap(t.Args)]
	for i := range l {
		spoil(l[i])
		l[i] = api.Term{Kind: -5}
	}
}

// sameRoom is whether terms are the same, with the spare room of their lists.
func sameRoom(a, b api.Term) bool {
	x, y := a.Args[:cap(a.Args)], b.Args[:cap(b.Args)]
	if a.Kind != b.Kind || a.N != b.N || len(a.Args) != len(b.Args) || len(x) != len(y) {
		return false
	}
	for i := range x {
		if !sameRoom(x[i], y[i]) {
			return false
		}
	}
	return true
}

// lists has the first place of each list of t, and how often it is there.
func lists(t api.Term, out map[*api.Term]int) {
	if cap(t.Args) > 0 {
		out[&t.Args[:1][0]]++
	}
	for _, a := range t.Args {
		lists(a, out)
	}
}

// sucs is the text of a number.
func sucs(n int) string {
	return strings.Repeat("(suc ", n) + "zero" + strings.Repeat(")", n)
}
