package book

import (
	"slices"
	"strings"
	"testing"

	"sortkernel/api"
	"sortkernel/decl"
	"sortkernel/term"
)

func v(n int) api.Term { return api.Term{Kind: api.TmVar, N: n} }

func def(n int) api.Term { return api.Term{Kind: api.TmDef, N: n} }

func m(kind int, args ...api.Term) api.Term { return api.Term{Kind: kind, Args: args} }

var (
	nat  = m(api.TmNat)
	zero = m(api.TmZero)
)

// lines are what most tests have ahead; all of them are taken.
var lines = []string{
	"(def one nat (suc zero))",
	"(def add (pi nat xa (pi nat xb nat)) (fn nat xa (fn nat xb (rec xc nat xa xc xd (suc xd) xb))))",
	"(def some (pi nat xa U0) (fn nat xa (rec xb U0 unit xb xc nat xa)))",
	"(def next (pi (some one) xa nat) (fn nat xa (suc xa)))",
	"(def not (pi U0 xa U0) (fn U0 xa (pi xa xb empty)))",
	"(def id (pi U0 xa (pi xa xb xa)) (fn U0 xa (fn xa xb xb)))",
}

// base are the declarations of the first so many of lines.
func base(many int) []api.Decl {
	fun := m(api.TmPi, nat, nat)
	not := m(api.TmPi, v(0), m(api.TmEmpty))
	sum := m(api.TmRec, nat, v(1), m(api.TmSuc, v(0)), v(0))
	choice := m(api.TmRec, m(api.TmU), m(api.TmUnit), nat, v(0))
	return []api.Decl{
		{Name: "one", Type: nat, Body: m(api.TmSuc, zero)},
		{Name: "add", Type: m(api.TmPi, nat, fun), Body: m(api.TmLam, nat, m(api.TmLam, nat, sum))},
		{Name: "some", Type: m(api.TmPi, nat, m(api.TmU)), Body: m(api.TmLam, nat, choice)},
		{Name: "next", Type: m(api.TmPi, m(api.TmApp, def(2), def(0)), nat), Body: m(api.TmLam, nat, m(api.TmSuc, v(0)))},
		{Name: "not", Type: m(api.TmPi, m(api.TmU), m(api.TmU)), Body: m(api.TmLam, m(api.TmU), not)},
		{Name: "id", Type: m(api.TmPi, m(api.TmU), m(api.TmPi, v(0), v(1))), Body: m(api.TmLam, m(api.TmU), m(api.TmLam, v(0), v(0)))},
	}[:many]
}

func sameDecl(a, b api.Decl) bool {
	return a.Name == b.Name && term.Same(a.Type, b.Type) && term.Same(a.Body, b.Body)
}

func sameDecls(a, b []api.Decl) bool { return slices.EqualFunc(a, b, sameDecl) }

// isNone is whether d is the zero value.
func isNone(d api.Decl) bool { return d.Name == "" && isZero(d.Type) && isZero(d.Body) }

func isZero(x api.Term) bool { return x.Kind == 0 && x.N == 0 && x.Args == nil }

// is: s is read so, behind l.
func is(t *testing.T, l []api.Decl, s string, want api.Decl) {
	t.Helper()
	if got, e := Read(l, s); e != api.OK || !sameDecl(got, want) {
		t.Errorf("%q, behind %q, is %v, %d, not %v", s, decl.Names(l), got, e, want)
	}
}

// no: s is not read, behind l.
func no(t *testing.T, l []api.Decl, s string, want api.Errno) {
	t.Helper()
	if got, e := Read(l, s); e != want || !isNone(got) {
		t.Errorf("%q, behind %q: %d comes, not %d, and %v", s, decl.Names(l), e, want, got)
	}
}

// loaded: of s come those that are called so, and these verdicts.
func loaded(t *testing.T, s, names string, want ...api.Verdict) {
	t.Helper()
	got, vs := Load(s)
	if strings.Join(decl.Names(got), " ") != names || !slices.Equal(vs, want) {
		t.Errorf("%q: %q comes, and %v, not %q, and %v", s, decl.Names(got), vs, names, want)
	}
}

// ok are so many verdicts of what is taken.
func ok(many int) []api.Verdict { return make([]api.Verdict, many) }

// numbered are so many lines of numbers, called by letters.
func numbered(many int) []string {
	var out []string
	for i := range many {
		out = append(out, "(def "+string(rune('a'+i))+" nat zero)")
	}
	return out
}

// sequences has f told all lists of at most so many of words, behind l.
func sequences(l, words []string, most int, f func([]string)) {
	f(l)
	if most == 0 {
		return
	}
	for _, w := range words {
		sequences(append(l[:len(l):len(l)], w), words, most-1, f)
	}
}

// under is x with so many TmSuc around it.
func under(x api.Term, many int) api.Term {
	for range many {
		x = m(api.TmSuc, x)
	}
	return x
}

// roomy is x with spare room behind each list of it.
func roomy(x api.Term) api.Term {
	out := api.Term{Kind: x.Kind, N: x.N, Args: make([]api.Term, 0, len(x.Args)+2)}
	for _, a := range x.Args {
		out.Args = append(out.Args, roomy(a))
	}
	for i := len(x.Args); i < cap(out.Args); i++ {
		out.Args[:cap(out.Args)][i] = zero
	}
	return out
}

// roomyAll is l with spare room behind it, in which there are these, and behind each list of it.
func roomyAll(l, behind []api.Decl) []api.Decl {
	var out []api.Decl
	for _, d := range slices.Concat(l, behind) {
		out = append(out, api.Decl{Name: d.Name, Type: roomy(d.Type), Body: roomy(d.Body)})
	}
	return out[:len(l)]
}

// sameRoom is whether terms are the same, with the spare room of their lists.
func sameRoom(a, b api.Term) bool {
	return a.Kind == b.Kind && a.N == b.N && len(a.Args) == len(b.Args) &&
		slices.EqualFunc(a.Args[:cap(a.Args)], b.Args[:cap(b.Args)], sameRoom)
}

// sameRoomAll is sameRoom, of declarations: of so many in the spare room behind a and b, too.
func sameRoomAll(a, b []api.Decl, behind int) bool {
	same := func(x, y api.Decl) bool {
		return x.Name == y.Name && sameRoom(x.Type, y.Type) && sameRoom(x.Body, y.Body)
	}
	return len(a) == len(b) && slices.EqualFunc(a[:len(a)+behind], b[:len(b)+behind], same)
}

// lists has the first place of each list of x, and how often it is there.
func lists(x api.Term, out map[*api.Term]int) {
	if cap(x.Args) > 0 {
		out[&x.Args[:1][0]]++
	}
	for _, a := range x.Args {
		lists(a, out)
	}
}
