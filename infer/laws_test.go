package infer

import (
	"testing"

	"sortkernel/api"
	"sortkernel/conv"
	"sortkernel/eval"
	"sortkernel/step"
	"sortkernel/term"
)

// typed is a term that has a type.
type typed struct{ x, of api.Term }

// grower makes terms of others that have types; numbers that come of each other choose.
type grower struct {
	p    *place
	seed uint32
	pool []typed
}

// places are contexts in which terms are grown.
func places(t *testing.T) []*place {
	return []*place{
		at(t, "e", "empty", "f", "(pi nat n nat)", "p", "(sig nat n unit)", "a", "nat"),
		at(t, "v", "U0", "x", "v", "g", "(pi v y nat)", "f", "(pi v y v)"),
		at(t, "w", "(pi nat n U0)", "h", "(pi nat n (w n))", "p", "(sig nat n (w n))", "k", "(pi (w zero) y nat)"),
		at(t, "e", "empty", "q", "(sig nat n (some n))", "f", "(pi nat n (some n))", "i", "(pi U0 v (pi v x v))"),
		at(t, "s", "(sig U0 a a)", "c", "(pi (fst s) x U0)", "d", "(sig (fst s) x (c x))", "n", "nat"),
	}
}

func (g *grower) pick(many int) int {
	g.seed = g.seed*1664525 + 1013904223
	return int(g.seed>>16) % many
}

func (g *grower) any() typed { return g.pool[g.pick(len(g.pool))] }

// anyOf is one whose type is of that kind, if there is one soon.
func (g *grower) anyOf(kind int) typed {
	out := g.any()
	for range 30 {
		if out.of.Kind == kind {
			break
		}
		out = g.any()
	}
	return out
}

// fits is one of that type, if there is one soon.
func (g *grower) fits(of api.Term) api.Term {
	for range 30 {
		if one := g.any(); conv.SameType(g.p.decls, g.p.ctx, one.of, of) {
			return one.x
		}
	}
	return g.any().x
}

// over is x, where one more is bound: that stands in each place of y.
func over(x, y api.Term) api.Term {
	return overArgs(term.Lift(x, 1, 0), term.Lift(y, 1, 0), 0)
}

func overArgs(x, y api.Term, within int) api.Term {
	if term.Same(x, term.Lift(y, within, 0)) {
		return v(within)
	}
	out := api.Term{Kind: x.Kind, N: x.N}
	for i, a := range x.Args {
		out.Args = append(out.Args, overArgs(a, y, within+term.BindsAt(x.Kind, i)))
	}
	return out
}

// next is a term of others; as often as not it has a type.
func (g *grower) next() api.Term {
	type0 := g.anyOf(api.TmU).x
	up := func(x api.Term) api.Term { return term.Lift(x, 1, 0) }
	switch g.pick(10) {
	case 0:
		return m(api.TmSuc, g.fits(nat))
	case 1:
		y := g.any()
		return m(api.TmLam, y.of, over(g.any().x, y.x))
	case 2:
		y := g.any()
		return m([]int{api.TmPi, api.TmSig}[g.pick(2)], y.of, over(g.anyOf(api.TmU).x, y.x))
	case 3, 4:
		f := g.anyOf(api.TmPi)
		if f.of.Kind != api.TmPi {
			return m(api.TmApp, f.x, g.any().x)
		}
		return m(api.TmApp, f.x, g.fits(f.of.Args[0]))
	case 5:
		a, b := g.any(), g.any()
		return m(api.TmPair, a.of, over(b.of, a.x), a.x, b.x)
	case 6:
		return m([]int{api.TmFst, api.TmSnd}[g.pick(2)], g.anyOf(api.TmSig).x)
	case 7:
		return m(api.TmAbsurd, type0, g.fits(empty))
	case 8:
		z, n := g.any(), g.fits(nat)
		return m(api.TmRec, up(z.of), z.x, m(api.TmVar), n)
	}
	n := g.fits(nat)
	c := over(g.anyOf(api.TmU).x, n)
	z, s := g.fits(term.Put(c, zero)), g.any().x
	return m(api.TmRec, c, z, over(up(s), up(n)), n)
}

// grown are terms that have types there; each that was made on the way, too, is as plain tells.
func grown(p *place, seed uint32, rounds int) []typed {
	g := &grower{p: p, seed: seed}
	for _, x := range []api.Term{u(0), u(1), u(2), unit, star, empty, nat, zero, def(0), def(1), def(2), def(3), def(4), def(5), v(0), v(1), v(2), v(3)} {
		of, _ := p.hold(x)
		g.pool = append(g.pool, typed{x, of})
	}
	for range rounds {
		x := g.next()
		if term.Wrong(x, len(p.ctx), len(p.decls)) != api.OK || term.Size(x) > 20 {
			continue
		}
		if of, e := p.hold(x); e == api.OK && term.Size(of) < 40 && term.Size(eval.Normal(p.decls, x, len(p.ctx))) < 100 {
			g.pool = append(g.pool, typed{x, of})
		}
	}
	return g.pool
}

// TestG2Grown: what comes of others that have types, and has one, or not, is as plain tells.
func TestG2Grown(t *testing.T) {
	for seed := range uint32(4) {
		for _, p := range places(t) {
			if many := len(grown(p, seed, 2000)); many < 600 {
				t.Errorf("%v: just %d", p.names, many)
			}
		}
	}
}

// TestG1OneType: each is of just one type, and of what is the same.
func TestG1OneType(t *testing.T) {
	for _, p := range places(t) {
		pool := grown(p, 7, 1000)
		for i, x := range pool {
			for j := range 50 {
				of := pool[(i*50+j*j*7)%len(pool)].of
				want := api.ErrType
				if conv.SameType(p.decls, p.ctx, x.of, of) {
					want = api.OK
				}
				if e := Check(p.decls, p.ctx, x.x, of); e != want {
					t.Fatalf("%s, of %s: %d comes", p.written(x.x), p.written(of), e)
				}
			}
			if e := Check(p.decls, p.ctx, x.x, x.of); e != api.OK {
				t.Fatalf("%s, of its own type: %d comes", p.written(x.x), e)
			}
			// Types have types, but where the highest ones are in them.
			if _, e := Sort(p.decls, p.ctx, x.of); e != api.OK && e != api.ErrRange {
				t.Fatalf("%s, of %s, which is none: %d", p.written(x.x), p.written(x.of), e)
			}
		}
	}
}

// TestG1Steps: a step keeps the type, and so do all of them.
func TestG1Steps(t *testing.T) {
	many := 0
	for _, p := range places(t) {
		for _, x := range grown(p, 8, 2000) {
			y, ok := step.Step(p.decls, x.x)
			if ok {
				many++
			}
			for _, z := range []api.Term{y, eval.Normal(p.decls, x.x, len(p.ctx))} {
				if e := Check(p.decls, p.ctx, z, x.of); e != api.OK {
					t.Fatalf("%s, of %s, and then %s: %d comes", p.written(x.x), p.written(x.of), p.written(z), e)
				}
			}
		}
	}
	if many < 1000 {
		t.Errorf("just %d steps", many)
	}
}

// TestG1More: with more there it stays, wherever that is bound; the context stays right.
func TestG1More(t *testing.T) {
	for _, p := range places(t) {
		for i, x := range grown(p, 9, 1000) {
			last := i % (len(p.ctx) + 1)
			ahead := len(p.ctx) - last
			ctx := append([]api.Term{}, p.ctx[:ahead]...)
			ctx = append(ctx, m(api.TmPi, nat, u(i%3)))
			for j, a := range p.ctx[ahead:] {
				ctx = append(ctx, term.Lift(a, 1, j))
			}
			if e, n := Context(p.decls, ctx); e != api.OK || n != -1 {
				t.Fatalf("the context: %d, %d", e, n)
			}
			of, e := Infer(p.decls, ctx, term.Lift(x.x, 1, last))
			if e != api.OK || !term.Same(of, term.Lift(x.of, 1, last)) {
				t.Fatalf("%s, with more: %v comes, %d", p.written(x.x), of, e)
			}
		}
	}
}

// TestG1Put: what is of the type of what was bound last can be put there, and fits.
func TestG1Put(t *testing.T) {
	// One that fits in each place, beside those that are found.
	sure := []string{"(suc zero)", "(fn v y x)", "(fn (w zero) y one)", "id", "one"}
	for i, p := range places(t) {
		pool := grown(p, 10, 1000)
		ctx := p.ctx[:len(p.ctx)-1]
		fit := []api.Term{term.Lift(p.read(sure[i]), -1, 0)}
		for _, x := range pool {
			if !term.Uses(x.x, 0) && Check(p.decls, ctx, term.Lift(x.x, -1, 0), p.ctx[len(ctx)]) == api.OK {
				fit = append(fit, term.Lift(x.x, -1, 0))
			}
		}
		for i, x := range pool {
			y := fit[i%len(fit)]
			if e := Check(p.decls, ctx, term.Put(x.x, y), term.Put(x.of, y)); e != api.OK {
				t.Fatalf("%s, of %s, of %v: %d comes", p.written(x.x), p.written(x.of), y, e)
			}
		}
	}
}
