package conv

import (
	"testing"

	"sortkernel/api"
	"sortkernel/text"
)

func v(n int) api.Term { return api.Term{Kind: api.TmVar, N: n} }

func u(n int) api.Term { return api.Term{Kind: api.TmU, N: n} }

func def(n int) api.Term { return api.Term{Kind: api.TmDef, N: n} }

func m(kind int, args ...api.Term) api.Term { return api.Term{Kind: kind, Args: args} }

var (
	nat   = m(api.TmNat)
	zero  = m(api.TmZero)
	unit  = m(api.TmUnit)
	star  = m(api.TmStar)
	empty = m(api.TmEmpty)
	none  = m(0) // of a kind that is none
)

// under is t with so many TmSuc around it.
func under(t api.Term, many int) api.Term {
	for range many {
		t = m(api.TmSuc, t)
	}
	return t
}

// place is where terms of tests stand: what is bound there is called so, and of those types.
type place struct {
	t     *testing.T
	names []string
	ctx   []api.Term
	decls []api.Decl
}

// The declarations of each place.
var declared = []string{"one", "add", "power", "tower", "some", "fun"}

// at is a place of names, each with the text of its type behind it.
func at(t *testing.T, l ...string) *place {
	t.Helper()
	p := &place{t: t}
	p.decls = []api.Decl{
		{Name: "one", Type: nat, Body: p.read("(suc zero)")},
		{Name: "add", Type: p.read("(pi nat n (pi nat m nat))"), Body: p.read("(fn nat n (fn nat m (rec k nat n j i (suc i) m)))")},
		// Two to a number.
		{Name: "power", Type: p.read("(pi nat n nat)"), Body: p.read("(fn nat n (rec k nat one j i (rec k nat zero l h (suc (suc h)) i) n))")},
		// Of 0, 1, 2 and so on 0, 1, 2, 4, 16, 65536.
		{Name: "tower", Type: p.read("(pi nat n nat)"), Body: p.read("(fn nat n (rec k nat zero j i (power i) n))")},
		// A type for each number: unit of 0, nat of 1 and more.
		{Name: "some", Type: p.read("(pi nat n U0)"), Body: p.read("(fn nat n (rec k U0 unit j i nat n))")},
		// Functions of so many numbers.
		{Name: "fun", Type: p.read("(pi nat n U0)"), Body: p.read("(fn nat n (rec k U0 nat j i (pi nat h i) n))")},
	}
	for i := 0; i < len(l); i += 2 {
		p.ctx = append(p.ctx, p.read(l[i+1]))
		p.names = append(p.names, l[i])
	}
	return p
}

// read is the term of a text, there.
func (p *place) read(s string) api.Term {
	p.t.Helper()
	x, e := text.Parse(s, p.names, declared)
	if e != api.OK {
		p.t.Fatalf("%q is no term: %d", s, e)
	}
	return x
}

func (p *place) reads(l []string) []api.Term {
	p.t.Helper()
	var out []api.Term
	for _, s := range l {
		out = append(out, p.read(s))
	}
	return out
}

// written is x as a text, there; names of those that no text can have come as they may.
func (p *place) written(x api.Term) string {
	return text.Print(x, p.names, declared)
}

// same: those of type of are the same, each with each.
func (p *place) same(of string, l ...string) {
	p.t.Helper()
	for _, a := range l {
		for _, b := range l {
			p.is(true, of, a, b)
		}
	}
}

// apart: no two of those of type of are the same, but each is as itself.
func (p *place) apart(of string, l ...string) {
	p.t.Helper()
	for i, a := range l {
		for j, b := range l {
			p.is(i == j, of, a, b)
		}
	}
}

func (p *place) is(want bool, of, a, b string) {
	p.t.Helper()
	if got := Same(p.decls, p.ctx, p.read(a), p.read(b), p.read(of)); got != want {
		p.t.Errorf("%s and %s, of %s: %t comes", a, b, of, got)
	}
}

// sameTypes: those types are the same, each with each.
func (p *place) sameTypes(l ...string) {
	p.t.Helper()
	for _, a := range l {
		for _, b := range l {
			p.isType(true, a, b)
		}
	}
}

// apartTypes: no two of those types are the same, but each is as itself.
func (p *place) apartTypes(l ...string) {
	p.t.Helper()
	for i, a := range l {
		for j, b := range l {
			p.isType(i == j, a, b)
		}
	}
}

// isType: as types, and as what is of TmU, which is one.
func (p *place) isType(want bool, a, b string) {
	p.t.Helper()
	x, y := p.read(a), p.read(b)
	if got := SameType(p.decls, p.ctx, x, y); got != want {
		p.t.Errorf("%s and %s: %t comes", a, b, got)
	}
	if got := Same(p.decls, p.ctx, x, y, u(3)); got != want {
		p.t.Errorf("%s and %s, of U3: %t comes", a, b, got)
	}
}

// roomy is x with spare room behind each list of it.
func roomy(x api.Term) api.Term {
	out := api.Term{Kind: x.Kind, N: x.N, Args: make([]api.Term, 0, len(x.Args)+2)}
	for _, a := range x.Args {
		out.Args = append(out.Args, roomy(a))
	}
	for i := len(x.Args); i < cap(out.Args); i++ {
		out.Args[:cap(out.Args)][i] = none
	}
	return out
}

// sameRoom is whether terms are the same, with the spare room of their lists.
func sameRoom(a, b api.Term) bool {
	x, y := a.Args[:cap(a.Args)], b.Args[:cap(b.Args)]
	if a.Kind != b.Kind || a.N != b.N || len(a.Args) != len(b.Args) || len(x) != len(y) {
		return false
	}
	for i := range x {
		if !sameRoom(x[i], y[i]) {
			return false
		}
	}
	return true
}
