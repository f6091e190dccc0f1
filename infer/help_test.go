package infer

import (
	"testing"

	"sortkernel/api"
	"sortkernel/eval"
	"sortkernel/term"
	"sortkernel/text"
)

func v(n int) api.Term { return api.Term{Kind: api.TmVar, N: n} }

func u(n int) api.Term { return api.Term{Kind: api.TmU, N: n} }

func def(n int) api.Term { return api.Term{Kind: api.TmDef, N: n} }

func m(kind int, args ...api.Term) api.Term { return api.Term{Kind: kind, Args: args} }

var (
	nat   = m(api.TmNat)
	zero  = m(api.TmZero)
	unit  = m(api.TmUnit)
	star  = m(api.TmStar)
	empty = m(api.TmEmpty)
	none  = m(0) // of a kind that is none
)

// place is where terms of tests stand: what is bound there is called so, and of those types.
type place struct {
	t     *testing.T
	names []string
	ctx   []api.Term
	decls []api.Decl
}

// The declarations of each place: name, type, body.
var declared = [][3]string{
	{"one", "nat", "(suc zero)"},
	{"add", "(pi nat n (pi nat m nat))", "(fn nat n (fn nat m (rec k nat n j i (suc i) m)))"},
	// A type for each number: unit of 0, nat of 1 and more.
	{"some", "(pi nat n U0)", "(fn nat n (rec k U0 unit j i nat n))"},
	// Functions of so many numbers.
	{"fun", "(pi nat n U0)", "(fn nat n (rec k U0 nat j i (pi nat h i) n))"},
	// Its type is to be worked out.
	{"next", "(fun one)", "(fn (some one) n (suc n))"},
	{"id", "(pi U0 a (pi a x a))", "(fn U0 a (fn a x x))"},
	// Two to a number; of 0, 1, 2 and so on 0, 1, 2, 4, 16, 65536, and two to that.
	{"power", "(fun one)", "(fn nat n (rec k nat one j i (rec k nat zero l h (suc (suc h)) i) n))"},
	{"tower", "(fun one)", "(fn nat n (rec k nat zero j i (power i) n))"},
}

// huge is a number that nobody can count to.
const huge = "(tower (suc (suc (suc (suc (suc one))))))"

// at is a place of names, each with the text of its type behind it.
func at(t *testing.T, l ...string) *place {
	t.Helper()
	p := &place{t: t}
	for _, d := range declared {
		p.decls = append(p.decls, api.Decl{Name: d[0], Type: p.read(d[1]), Body: p.read(d[2])})
	}
	for i := 0; i < len(l); i += 2 {
		p.ctx = append(p.ctx, p.read(l[i+1]))
		p.names = append(p.names, l[i])
	}
	return p
}

func (p *place) called() []string {
	var out []string
	for _, d := range p.decls {
		out = append(out, d.Name)
	}
	return out
}

// read is the term of a text, there.
func (p *place) read(s string) api.Term {
	p.t.Helper()
	x, e := text.Parse(s, p.names, p.called())
	if e != api.OK {
		p.t.Fatalf("%q is no term: %d", s, e)
	}
	return x
}

// written is x as a text, there.
func (p *place) written(x api.Term) string {
	return text.Print(x, p.names, p.called())
}

// of: each of those is of just that type, and of no other one of some.
func (p *place) of(of string, l ...string) {
	p.t.Helper()
	want := eval.Normal(p.decls, p.read(of), len(p.ctx))
	for _, s := range l {
		got, e := Infer(p.decls, p.ctx, p.read(s))
		if e != api.OK || !term.Same(got, want) {
			p.t.Errorf("%s: %s comes, %d, not %s", s, p.written(got), e, of)
		}
		p.checks(s, of, api.OK)
		for _, other := range []string{"nat", "unit", "empty", "U0", "U1", "U2", "(pi nat n nat)", "(sig nat n nat)"} {
			if x := p.read(other); !term.Same(x, want) {
				p.checks(s, other, api.ErrType)
			}
		}
	}
}

// bad: none of those has a type, which is told by that error.
func (p *place) bad(want api.Errno, l ...string) {
	p.t.Helper()
	for _, s := range l {
		x := p.read(s)
		got, e := Infer(p.decls, p.ctx, x)
		if e != want || !term.Same(got, api.Term{}) {
			p.t.Errorf("%s: %d comes, and %v, not %d", s, e, got, want)
		}
		if n, e := Sort(p.decls, p.ctx, x); e != want || n != 0 {
			p.t.Errorf("%s: %d comes of Sort, and %d, not %d", s, e, n, want)
		}
		p.checks(s, "nat", want)
	}
}

func (p *place) checks(s, of string, want api.Errno) {
	p.t.Helper()
	if e := Check(p.decls, p.ctx, p.read(s), p.read(of)); e != want {
		p.t.Errorf("%s, of %s: %d comes, not %d", s, of, e, want)
	}
}

// roomy is x with spare room behind each list of it.
func roomy(x api.Term) api.Term {
	out := api.Term{Kind: x.Kind, N: x.N, Args: make([]api.Term, 0, len(x.Args)+2)}
	for _, a := range x.Args {
		out.Args = append(out.Args, roomy(a))
	}
	for i := len(x.Args); i < cap(out.Args); i++ {
		out.Args[:cap(out.Args)][i] = none
	}
	return out
}

// sameRoom is whether terms are the same, with the spare room of their lists.
func sameRoom(a, b api.Term) bool {
	x, y := a.Args[:cap(a.Args)], b.Args[:cap(b.Args)]
	if a.Kind != b.Kind || a.N != b.N || len(a.Args) != len(b.Args) || len(x) != len(y) {
		return false
	}
	for i := range x {
		if !sameRoom(x[i], y[i]) {
			return false
		}
	}
	return true
}

// spoil overwrites all lists of x, with their spare room.
func spoil(x api.Term) {
	l := x.Args[:cap(x.Args)]
	for i := range l {
		spoil(l[i])
		l[i] = api.Term{Kind: -5}
	}
}
