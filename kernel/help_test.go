package kernel

import (
	"slices"
	"strings"
	"testing"

	"sortkernel/api"
	"sortkernel/decl"
	"sortkernel/term"
)

func v(n int) api.Term { return api.Term{Kind: api.TmVar, N: n} }

func u(n int) api.Term { return api.Term{Kind: api.TmU, N: n} }

func def(n int) api.Term { return api.Term{Kind: api.TmDef, N: n} }

func m(kind int, args ...api.Term) api.Term { return api.Term{Kind: kind, Args: args} }

var (
	nat  = m(api.TmNat)
	zero = m(api.TmZero)
	one  = m(api.TmSuc, zero)
	star = m(api.TmStar)
	unit = m(api.TmUnit)
)

// base are the first so many of those that most tests have ahead; all of them are taken, one behind the other.
func base(many int) []api.Decl {
	sum := m(api.TmRec, nat, v(1), m(api.TmSuc, v(0)), v(0))
	choice := m(api.TmRec, u(0), unit, nat, v(0))
	return []api.Decl{
		{Name: "one", Type: nat, Body: one},
		{Name: "add", Type: m(api.TmPi, nat, m(api.TmPi, nat, nat)), Body: m(api.TmLam, nat, m(api.TmLam, nat, sum))},
		// A type for each number: unit of 0, nat of 1 and more.
		{Name: "some", Type: m(api.TmPi, nat, u(0)), Body: m(api.TmLam, nat, choice)},
		// Its type is to be worked out.
		{Name: "next", Type: m(api.TmPi, m(api.TmApp, def(2), def(0)), nat), Body: m(api.TmLam, nat, m(api.TmSuc, v(0)))},
		{Name: "not", Type: m(api.TmPi, u(0), u(0)), Body: m(api.TmLam, u(0), m(api.TmPi, v(0), m(api.TmEmpty)))},
		{Name: "id", Type: m(api.TmPi, u(0), m(api.TmPi, v(0), v(1))), Body: m(api.TmLam, u(0), m(api.TmLam, v(0), v(0)))},
	}[:many]
}

// ahead is the session in which the first so many of base were taken.
func ahead(t *testing.T, many int) api.Session {
	t.Helper()
	s := All(Bytes(base(many)))
	if !sameDecls(s.Decls, base(many)) || !slices.Equal(s.Verdicts, ok(many)) {
		t.Fatalf("%v", s)
	}
	return s
}

// called is the bytes of a name, and these behind it.
func called(name string, behind ...byte) []byte {
	return append(append([]byte{byte(len(name))}, name...), behind...)
}

// sucs is zero as bytes, with so many TmSuc around it.
func sucs(many int) []byte {
	return append(slices.Repeat([]byte{api.TmSuc}, many), api.TmZero)
}

// ok are so many verdicts of what is taken.
func ok(many int) []api.Verdict { return make([]api.Verdict, many) }

func sameDecl(a, b api.Decl) bool {
	return a.Name == b.Name && term.Same(a.Type, b.Type) && term.Same(a.Body, b.Body)
}

func sameDecls(a, b []api.Decl) bool { return slices.EqualFunc(a, b, sameDecl) }

func same(a, b api.Session) bool {
	return sameDecls(a.Decls, b.Decls) && slices.Equal(a.Verdicts, b.Verdicts)
}

// comes: of b behind s comes this verdict, one more, and these are declared: those of s, and maybe one more.
func comes(t *testing.T, s api.Session, b []byte, want api.Verdict, names string) api.Session {
	t.Helper()
	got := Do(s, b)
	if !slices.Equal(got.Verdicts, append(s.Verdicts[:len(s.Verdicts):len(s.Verdicts)], want)) {
		t.Errorf("%v: %v comes, not %v behind %v", b, got.Verdicts, want, s.Verdicts)
	}
	many := len(s.Decls)
	if strings.Join(decl.Names(got.Decls), " ") != names || !sameDecls(got.Decls[:many], s.Decls) {
		t.Errorf("%v: %v comes, not %q, %v ahead", b, got.Decls, names, s.Decls)
	}
	return got
}

// taken: b is taken behind s, as d.
func taken(t *testing.T, s api.Session, b []byte, d api.Decl) api.Session {
	t.Helper()
	got := comes(t, s, b, api.Verdict{}, strings.Join(append(decl.Names(s.Decls), d.Name), " "))
	if last := len(got.Decls) - 1; !sameDecl(got.Decls[last], d) {
		t.Errorf("%v: %v comes, not %v", b, got.Decls[last], d)
	}
	return got
}

// refused: b is not taken behind s, whose declarations stay.
func refused(t *testing.T, s api.Session, b []byte, e api.Errno, part int) {
	t.Helper()
	comes(t, s, b, api.Verdict{Err: e, Part: part}, strings.Join(decl.Names(s.Decls), " "))
}

// picker has one of so many chosen, by numbers that come of each other.
func picker(seed uint32) func(int) int {
	return func(many int) int {
		seed = seed*1664525 + 1013904223
		return int(seed>>16) % many
	}
}

// roomy is x with spare room behind each list of it.
func roomy(x api.Term) api.Term {
	out := api.Term{Kind: x.Kind, N: x.N, Args: make([]api.Term, 0, len(x.Args)+2)}
	for _, a := range x.Args {
		out.Args = append(out.Args, roomy(a))
	}
	for i := len(x.Args); i < cap(out.Args); i++ {
		out.Args[:cap(out.Args)][i] = zero
	}
	return out
}

// roomyDecls is l with spare room behind it, and behind each list of it.
func roomyDecls(l []api.Decl) []api.Decl {
	out := make([]api.Decl, 0, len(l)+3)
	for _, d := range append(l[:len(l):len(l)], base(3)...) {
		out = append(out, api.Decl{Name: d.Name, Type: roomy(d.Type), Body: roomy(d.Body)})
	}
	return out[:len(l)]
}

// roomySession is s with spare room behind its lists, and behind theirs.
func roomySession(s api.Session) api.Session {
	vs := append(slices.Clone(s.Verdicts), api.Verdict{Err: -1}, api.Verdict{Err: -2}, api.Verdict{Err: -3})
	return api.Session{Decls: roomyDecls(s.Decls), Verdicts: vs[:len(s.Verdicts)]}
}

// sameRoom is whether terms are the same, with the spare room of their lists.
func sameRoom(a, b api.Term) bool {
	return a.Kind == b.Kind && a.N == b.N && len(a.Args) == len(b.Args) &&
		slices.EqualFunc(a.Args[:cap(a.Args)], b.Args[:cap(b.Args)], sameRoom)
}

// sameRoomDecls is sameRoom, of what roomyDecls makes.
func sameRoomDecls(a, b []api.Decl) bool {
	same := func(x, y api.Decl) bool {
		return x.Name == y.Name && sameRoom(x.Type, y.Type) && sameRoom(x.Body, y.Body)
	}
	return len(a) == len(b) && slices.EqualFunc(a[:len(a)+3], b[:len(b)+3], same)
}

// sameRoomSession is sameRoom, of what roomySession makes.
func sameRoomSession(a, b api.Session) bool {
	many := len(a.Verdicts)
	return many == len(b.Verdicts) && slices.Equal(a.Verdicts[:many+3], b.Verdicts[:many+3]) && sameRoomDecls(a.Decls, b.Decls)
}

// spoil overwrites all lists of x, with their spare room.
func spoil(x api.Term) {
	l := x.Args[:cap(x.Args)]
	for i := range l {
		spoil(l[i])
		l[i] = api.Term{Kind: -5}
	}
}

// spoilDecls overwrites l, and all lists of it, with their spare room.
func spoilDecls(l []api.Decl) {
	l = l[:cap(l)]
	for i := range l {
		spoil(l[i].Type)
		spoil(l[i].Body)
		l[i] = api.Decl{Name: "gone"}
	}
}

// spoilSession overwrites all lists of s, with their spare room.
func spoilSession(s api.Session) {
	spoilDecls(s.Decls)
	vs := s.Verdicts[:cap(s.Verdicts)]
	for i := range vs {
		vs[i] = api.Verdict{Err: -7, Part: -7}
	}
}

// spoilBytes overwrites b, with its spare room.
func spoilBytes(b []byte) {
	b = b[:cap(b)]
	for i := range b {
		b[i] = 200
	}
}

// lists has the first place of each list of x, and how often it is there.
func lists(x api.Term, out map[*api.Term]int) {
	if cap(x.Args) > 0 {
		out[&x.Args[:1][0]]++
	}
	for _, a := range x.Args {
		lists(a, out)
	}
}

// apart: no two of the lists of l are one.
func apart(t *testing.T, l []api.Decl) {
	t.Helper()
	out := map[*api.Term]int{}
	for _, d := range l {
		lists(d.Type, out)
		lists(d.Body, out)
	}
	for _, n := range out {
		if n > 1 {
			t.Errorf("%v: a list is there %d times", l, n)
		}
	}
}
